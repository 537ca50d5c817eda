/- Package ghost: the library's ContainsFunc at moves; Point. -/
import Derived.Test.YtnmlnjljmikmpaaGj
namespace Go.Proofs.Ytnmlnjljmikmpaa
open Go.RowKit Go.Shelf
set_option linter.unusedVariables false
set_option linter.unusedSimpArgs false
attribute [local go_sem ↓] Go.wp_at_zero Go.wp_at_succ
attribute [local go_sem] Oper.semAt_some

set_option maxRecDepth 100000 in
set_option maxHeartbeats 4000000 in
theorem indexW_any {w : World} {la : Option Addr} {n lc : Nat} {ms : List Mv} (hl : RIn mC w la n ms) (hn : n ≤ 2932031007317) :
    Calls Try.prog 74 #[.slice la n lc, .func (.func 56) #[] #[]] w fun e w' => ∃ i : Int, e = .returned (.int .i64 i) ∧ decide (0 ≤ i) = ms.any Mv.puts ∧ Kept (fun _ => False) w w' := by
  have HQ : Hid (∀ (i : Int) w', decide (0 ≤ i) = ms.any Mv.puts → Kept (fun _ => False) w w' → (fun e w' => ∃ i : Int, e = .returned (.int .i64 i) ∧ decide (0 ≤ i) = ms.any Mv.puts ∧ Kept (fun _ => False) w w') (Ending.returned (.int .i64 i)) w') := hid (fun i w' h1 h2 => ⟨i, rfl, h1, h2⟩)
  generalize (fun (e : Ending) (w' : World) => ∃ i : Int, e = .returned (.int .i64 i) ∧ decide (0 ≤ i) = ms.any Mv.puts ∧ Kept (fun _ => False) w w') = Q at *
  have HL := hid hl
  have HLN := hid hl.1
  have hn1 : (n : Int) ≤ 2932031007317 := by omega
  clear hl hn
  go_enter Try.func74, Try.ntmps74
  go_wp2
  go_loopw [8] (fun i wr => ∃ (j : Nat), i = .int .i64 j ∧ j ≤ n ∧ (ms.take j).any Mv.puts = false ∧ Kept (fun _ => False) w wr) (fun i _ => n - (intOf i).toNat)
  case atStart => exact ⟨0, rfl, Nat.zero_le _, rfl, Kept.refl _ _⟩
  case round =>
    obtain ⟨j, rfl, hj, ha, hk⟩ := hrel
    by_cases hlt : j < n
    · have hlt' : (j : Int) < (n : Int) := by omega
      have hj0 : (0 : Int) ≤ (j : Int) := by omega
      have hr := HL.out.kept hk
      obtain ⟨g, off, rfl⟩ := hr.addr (by omega)
      obtain ⟨x, hx⟩ : ∃ x, ms[j]? = some x := ⟨_, List.getElem?_eq_getElem (by have := HLN.out; omega)⟩
      have q := fun i u hu => hr.at (k := 6) (fun _ => rfl) hx i u hu
      have q0 := q 0 _ rfl
      have q1 := q 1 _ rfl
      have q2 := q 2 _ rfl
      have q3 := q 3 _ rfl
      have q4 := q 4 _ rfl
      have q5 := q 5 _ rfl
      rw [Nat.add_zero] at q0
      have hP := writesP_any x wr
      have htk := take_snoc hx
      obtain ⟨r, hsp⟩ := take_split hx
      cases hp : Mv.puts x with
      | false =>
        rw [hp] at hP
        have HR : Hid ((ms.take (j + 1)).any Mv.puts = false) := hid (by rw [htk, List.any_append, ha]; simp [hp])
        have HJ : Hid (j + 1 ≤ n ∧ n - (j + 1) < n - j) := hid ⟨by omega, by omega⟩
        have HK := hid hk
        clear q hr hx htk hsp hp ha hk HL HLN hlt
        go_wp2_with (go_at_call 56; refine hP.mono ?_; rintro e w2 ⟨rfl, hk2⟩; have HK2 := hid (HK.out.trans hk2 (fun _ _ f => f)); clear hk2)
        go_roundw
        case rel => exact ⟨j + 1, by simp, HJ.out.1, HR.out, HK2.out⟩
        case measure => have := HJ.out.2; simp [intOf]; omega
      | true =>
        rw [hp] at hP
        have HR : Hid (∀ w', Kept (fun _ => False) w w' → Q (Ending.returned (.int .i64 j)) w') := hid (fun w' h => HQ.out _ _ (by rw [hsp, List.any_append, List.any_cons, hp]; simp) h)
        have HK := hid hk
        clear q hr hx htk hsp hp ha hk HL HLN hlt HQ
        go_wp2_with (go_at_call 56; refine hP.mono ?_; rintro e w2 ⟨rfl, hk2⟩; have HK2 := hid (HK.out.trans hk2 (fun _ _ f => f)); clear hk2)
        exact HR.out _ HK2.out
    · have hlt' : ¬ (j : Int) < (n : Int) := by omega
      have e : ms.take j = ms := List.take_of_length_le (by have := HLN.out; omega)
      rw [e] at ha
      have HR := hid (HQ.out (-1) wr (by rw [ha]; rfl) hk)
      clear ha hk HQ HL HLN e
      go_wp2
      exact HR.out
theorem containsW_any {w : World} {la : Option Addr} {n lc : Nat} {ms : List Mv} (hl : RIn mC w la n ms) (hn : n ≤ 2932031007317) :
    Calls Try.prog 55 #[.slice la n lc, .func (.func 56) #[] #[]] w fun e w' => e = .returned (.bool (ms.any Mv.puts)) ∧ Kept (fun _ => False) w w' := by
  have h := indexW_any (lc := lc) hl hn
  generalize ms.any Mv.puts = b at *
  clear hl
  go_enter Try.func55, Try.ntmps55
  go_wp2_with (go_at_call 74; refine h.mono ?_; rintro e w2 ⟨i, rfl, hi, hk2⟩; have HK2 := hid hk2; have HI := hid hi; clear hk2 hi)
  go_ret
  exact ⟨by rw [← HI.out]; rfl, HK2.out⟩
/-- The gate and the step of the last move. -/
def lastM (d : Int × Int) (ms : List Mv) : Int × Int := match ms.getLast? with | none => d | some m => (m.ga, m.st)
def pointM (s : Sy) : Int × Int := if s.ft = 1 ∧ s.ms.any Mv.puts = true then (s.ga, s.en) else lastM (s.op, s.bg) (s.ms.filter Mv.out)
theorem lastM_snoc (d : Int × Int) (ms : List Mv) (m : Mv) : lastM d (ms ++ [m]) = (m.ga, m.st) := by simp [lastM]
set_option maxRecDepth 100000 in
set_option maxHeartbeats 4000000 in
theorem point_yes {w : World} (m : Sm) (hm : SIn w m) (hpp : m.s.ft = 1 ∧ m.s.ms.any Mv.puts = true) : Calls Try.prog 42 #[syV m] w fun e w' => e = .returned (.tuple #[.int .i64 (pointM m.s).1, .int .i64 (pointM m.s).2]) ∧ Kept (fun _ => False) w w' := by
  obtain ⟨hl, hb, -⟩ := hm
  obtain ⟨⟨z0, z1, z2, z3, z4, z5, z6, z7, z8, ms⟩, la, lc⟩ := m
  simp only at hl hb hpp
  have a1 := (St.nil w).box #[.int .i64 z0, .int .i64 z1, .int .i64 z2, .int .i64 z3, .int .i64 z4, .int .i64 z5, .int .i64 z6, .int .i64 z7, .int .i64 z8, .slice la ms.length lc] 44
  have hk1 := kept_alloc w (.cells #[.int .i64 z0, .int .i64 z1, .int .i64 z2, .int .i64 z3, .int .i64 z4, .int .i64 z5, .int .i64 z6, .int .i64 z7, .int .i64 z8, .slice la ms.length lc] 44)
  unfold syV pointM
  simp only
  generalize hw1 : w.alloc (.cells #[.int .i64 z0, .int .i64 z1, .int .i64 z2, .int .i64 z3, .int .i64 z4, .int .i64 z5, .int .i64 z6, .int .i64 z7, .int .i64 z8, .slice la ms.length lc] 44) = w1 at *
  generalize hE : w.heap.size = E at *
  have CE : Hid (∀ W, Kept (fun _ => False) w1 W → W.cell? ⟨E, 0, none⟩ = some (.int .i64 z0) ∧ W.cell? ⟨E, 1, none⟩ = some (.int .i64 z1) ∧ W.cell? ⟨E, 2, none⟩ = some (.int .i64 z2) ∧ W.cell? ⟨E, 3, none⟩ = some (.int .i64 z3) ∧ W.cell? ⟨E, 4, none⟩ = some (.int .i64 z4) ∧ W.cell? ⟨E, 5, none⟩ = some (.int .i64 z5) ∧ W.cell? ⟨E, 6, none⟩ = some (.int .i64 z6) ∧ W.cell? ⟨E, 7, none⟩ = some (.int .i64 z7) ∧ W.cell? ⟨E, 8, none⟩ = some (.int .i64 z8) ∧ W.cell? ⟨E, 9, none⟩ = some (.slice la ms.length lc)) := hid (fun W hW => by
    have hs := a1.calm hW
    exact ⟨hs.cell 0 rfl 0, hs.cell 0 rfl 1, hs.cell 0 rfl 2, hs.cell 0 rfl 3, hs.cell 0 rfl 4, hs.cell 0 rfl 5, hs.cell 0 rfl 6, hs.cell 0 rfl 7, hs.cell 0 rfl 8, hs.cell 0 rfl 9⟩)
  obtain ⟨c0, c1, c2, c3, c4, c5, c6, c7, c8, c9⟩ := CE.out _ (Kept.refl _ w1)
  have hC := commits_any ⟨⟨z0, z1, z2, z3, z4, z5, z6, z7, z8, ms⟩, la, lc⟩ w1
  have HCW : Hid (∀ W, Kept (fun _ => False) w1 W → Calls Try.prog 55 #[.slice la ms.length lc, .func (.func 56) #[] #[]] W fun e w' => e = .returned (.bool (ms.any Mv.puts)) ∧ Kept (fun _ => False) w1 w') := hid (fun W hW => (containsW_any (lc := lc) (hl.kept (hk1.trans hW (fun _ _ f => f))) hb).mono (by
    rintro e w' ⟨rfl, h⟩
    exact ⟨rfl, hW.trans h (fun _ _ f => f)⟩))
  have hf1 : Fence.wide.fn 57 := trivial
  have hf2 : Fence.wide.fn 54 := trivial
  have hf3 : Fence.wide.fn 55 := trivial
  have hmx : (Try.prog).follows .mixedOrders = true := by kernel_rfl
  obtain ⟨rfl, hpu⟩ := hpp
  rw [hpu] at HCW
  have HKK : Hid (∀ W, Kept (fun _ => False) w1 W → Kept (fun _ => False) w W) := hid (fun W hW => hk1.trans hW (fun _ _ f => f))
  rw [if_pos ⟨rfl, hpu⟩]
  simp only at hC ⊢
  clear a1 hk1 hl hpu
  go_enter Try.func42, Try.ntmps42
  go_upto_region 2 with (first | simp only [hw1, hE] | (go_at_call 54; refine hC.mono ?_; rintro e w2 ⟨rfl, hk2⟩; obtain ⟨c0, c1, c2, c3, c4, c5, c6, c7, c8, c9⟩ := CE.out _ hk2; have hCW := HCW.out _ hk2; clear hk2) | (go_at_call 55; refine hCW.mono ?_; rintro e w3 ⟨rfl, hk3⟩; have HK3 := hid hk3; clear hk3))
  clear c0 c1 c2 c3 c4 c5 c6 c7 c8 c9 hC hCW
  obtain ⟨c0, c1, c2, c3, c4, c5, c6, c7, c8, c9⟩ := CE.out _ HK3.out.drew
  go_region
  go_wp2
  go_ret2
  exact ⟨rfl, HKK.out _ HK3.out.drew⟩

end Go.Proofs.Ytnmlnjljmikmpaa
