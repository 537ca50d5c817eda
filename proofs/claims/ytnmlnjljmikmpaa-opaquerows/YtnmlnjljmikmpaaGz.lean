/- Package ghost: Point in whole. -/
import Derived.Test.YtnmlnjljmikmpaaGk
namespace Go.Proofs.Ytnmlnjljmikmpaa
open Go.RowKit Go.Shelf
set_option linter.unusedVariables false
set_option linter.unusedSimpArgs false
attribute [local go_sem ↓] Go.wp_at_zero Go.wp_at_succ
attribute [local go_sem] Oper.semAt_some

/-- What the loop of Point keeps. -/
def ptK (P4 P5 E : Nat) (cs : Array Value) (a b : Int) (n : Nat) (pre : List Mv) (X : List It) : Prop := X = [boxI P4 #[.int .i64 (lastM (a, b) pre).1] 3, boxI P5 #[.int .i64 (lastM (a, b) pre).2] 3, boxI E cs 44] ∧ Hid (pre.length ≤ n)
set_option maxRecDepth 100000 in
set_option maxHeartbeats 4000000 in
theorem point_no {w : World} (m : Sm) (hm : SIn w m) (hpp : ¬ (m.s.ft = 1 ∧ m.s.ms.any Mv.puts = true)) : Calls Try.prog 42 #[syV m] w fun e w' => e = .returned (.tuple #[.int .i64 (pointM m.s).1, .int .i64 (pointM m.s).2]) ∧ Kept (fun _ => False) w w' := by
  obtain ⟨hl, hb, -⟩ := hm
  obtain ⟨⟨z0, z1, z2, z3, z4, z5, z6, z7, z8, ms⟩, la, lc⟩ := m
  simp only at hl hb hpp
  have a1 := (St.nil w).box #[.int .i64 z0, .int .i64 z1, .int .i64 z2, .int .i64 z3, .int .i64 z4, .int .i64 z5, .int .i64 z6, .int .i64 z7, .int .i64 z8, .slice la ms.length lc] 44
  have hk1 := kept_alloc w (.cells #[.int .i64 z0, .int .i64 z1, .int .i64 z2, .int .i64 z3, .int .i64 z4, .int .i64 z5, .int .i64 z6, .int .i64 z7, .int .i64 z8, .slice la ms.length lc] 44)
  unfold syV pointM
  simp only
  rw [if_neg hpp]
  generalize hw1 : w.alloc (.cells #[.int .i64 z0, .int .i64 z1, .int .i64 z2, .int .i64 z3, .int .i64 z4, .int .i64 z5, .int .i64 z6, .int .i64 z7, .int .i64 z8, .slice la ms.length lc] 44) = w1 at *
  generalize hE : w.heap.size = E at *
  have CE : Hid (∀ W, Kept (fun _ => False) w1 W → W.cell? ⟨E, 0, none⟩ = some (.int .i64 z0) ∧ W.cell? ⟨E, 1, none⟩ = some (.int .i64 z1) ∧ W.cell? ⟨E, 2, none⟩ = some (.int .i64 z2) ∧ W.cell? ⟨E, 3, none⟩ = some (.int .i64 z3) ∧ W.cell? ⟨E, 4, none⟩ = some (.int .i64 z4) ∧ W.cell? ⟨E, 5, none⟩ = some (.int .i64 z5) ∧ W.cell? ⟨E, 6, none⟩ = some (.int .i64 z6) ∧ W.cell? ⟨E, 7, none⟩ = some (.int .i64 z7) ∧ W.cell? ⟨E, 8, none⟩ = some (.int .i64 z8) ∧ W.cell? ⟨E, 9, none⟩ = some (.slice la ms.length lc)) := hid (fun W hW => by
    have hs := a1.calm hW
    exact ⟨hs.cell 0 rfl 0, hs.cell 0 rfl 1, hs.cell 0 rfl 2, hs.cell 0 rfl 3, hs.cell 0 rfl 4, hs.cell 0 rfl 5, hs.cell 0 rfl 6, hs.cell 0 rfl 7, hs.cell 0 rfl 8, hs.cell 0 rfl 9⟩)
  obtain ⟨c0, c1, c2, c3, c4, c5, c6, c7, c8, c9⟩ := CE.out _ (Kept.refl _ w1)
  have hC := commits_any ⟨⟨z0, z1, z2, z3, z4, z5, z6, z7, z8, ms⟩, la, lc⟩ w1
  have HCW : Hid (∀ W, Kept (fun _ => False) w1 W → Calls Try.prog 55 #[.slice la ms.length lc, .func (.func 56) #[] #[]] W fun e w' => e = .returned (.bool (ms.any Mv.puts)) ∧ Kept (fun _ => False) w1 w') := hid (fun W hW => (containsW_any (lc := lc) (hl.kept (hk1.trans hW (fun _ _ f => f))) (by omega)).mono (by
    rintro e w' ⟨rfl, h⟩
    exact ⟨rfl, hW.trans h (fun _ _ f => f)⟩))
  have hf1 : Fence.wide.fn 57 := trivial
  have hf2 : Fence.wide.fn 54 := trivial
  have hf3 : Fence.wide.fn 55 := trivial
  have hmx : (Try.prog).follows .mixedOrders = true := by kernel_rfl
  have HA1 := hid a1
  have HHL := hid hl
  refine (callsIn_wide (n := 9)).1 ?_
  refine callsIn_of_wp_marks Try.func42 rfl trivial ?_
  simp only [Try.ntmps42, List.size_toArray, List.length_cons, List.length_nil, Nat.reduceAdd, Nat.reduceSub, Array.replicate_succ, Array.replicate_zero, List.push_toArray, List.append_toArray, List.nil_append, List.cons_append]
  cases h1 : (z4 == 1) with
  | false =>
    simp only [Sm.commits, h1] at hC
    clear a1 hl hpp
    gi_wp2_with (first | simp only [hw1, hE] | (gi_at_call 54; refine (callsIn_wide.2 hC).mono ?_; rintro e w2 ⟨rfl, hk2⟩; have HK3 := hid hk2; clear hk2))
    obtain ⟨c0, c1, c2, c3, c4, c5, c6, c7, c8, c9⟩ := CE.out _ HK3.out.drew
    have kA := kept_alloc w2 (.cells #[.int .i64 0] 3)
    have kB := kA.trans (kept_alloc (w2.alloc (.cells #[.int .i64 0] 3)) (.cells #[.int .i64 0] 3)) (fun _ _ f => f)
    obtain ⟨-, -, d2, -, -, -, -, d7, -, -⟩ := CE.out _ (HK3.out.trans kA.drew (fun _ _ f => f))
    obtain ⟨-, -, e2, -, -, -, -, e7, -, -⟩ := CE.out _ (HK3.out.trans kB.drew (fun _ _ f => f))
    have HKB := hid (fun (x y : Int) => (kept_alloc w2 (.cells #[.int .i64 x] 3)).trans (kept_alloc (w2.alloc (.cells #[.int .i64 x] 3)) (.cells #[.int .i64 y] 3)) (fun _ _ f => f))
    obtain ⟨-, -, f2, -⟩ := CE.out _ (HK3.out.trans (HKB.out z7 0).drew (fun _ _ f => f))
    obtain ⟨-, -, g2, -⟩ := CE.out _ (HK3.out.trans (HKB.out 0 z7).drew (fun _ _ f => f))
    gi_region
    · skip
      have s3 := ((((HA1.out.calm HK3.out).box #[.int .i64 z7] 3).box #[.int .i64 z2] 3).perm (List.Perm.swap _ _ _)).calm (Kept.refl _ _).drew
      simp only [alloc_size] at s3
      generalize ((w2.alloc (.cells #[.int .i64 z7] 3)).alloc (.cells #[.int .i64 z2] 3)).drew = w3 at *
      generalize w2.heap.size = S at *
      clear c0 c1 c2 c3 c4 c5 c6 c7 c8 c9 d2 d7 e2 e7 f2 g2 kA kB HKB CE HCW HA1 HK3 hw1 hE hC
      have hT := thoseMove_any s3 la ms.length lc 58
      have c9 := s3.cell 2 rfl 9
      clear s3
      gi_wp2_with (first | (gi_at_call 57; refine (callsIn_wide.2 hT).mono ?_; rintro e w4 ⟨b1, b2, rfl, a4⟩))
      clear c9 hT
      refine rf_law2 (o := w) (T := []) (enc := mvV) rfl (enters_of Try.func75 (by kernel_rfl) rfl) (those_looksOut (lc := lc) HHL.out (by omega) b1 b2) rfl (ptK S (S + 1) E #[.int .i64 z0, .int .i64 z1, .int .i64 z2, .int .i64 z3, .int .i64 z4, .int .i64 z5, .int .i64 z6, .int .i64 z7, .int .i64 z8, .slice la ms.length lc] z7 z2 ms.length) (fun c pre X => False) ms.length (fun pre X hX => hX.2.out) ⟨_, ⟨rfl, hid (by simp)⟩, ?h0FA⟩ (fun x => #[.int .i64 x.st, .bool x.wr, .int .i64 x.ce, .int .i64 x.x, .bool x.ow, .int .i64 x.ga]) 46 (fun x B => { tmps := #[.agg #[.int .i64 z0, .int .i64 z1, .int .i64 z2, .int .i64 z3, .int .i64 z4, .int .i64 z5, .int .i64 z6, .int .i64 z7, .int .i64 z8, .slice la ms.length lc], .pointer (some ⟨E, 0, none⟩), .int .i64 0, .int .i64 0, .pointer (some ⟨S, 0, none⟩), .pointer (some ⟨S + 1, 0, none⟩), .pointer (some ⟨B, 0, none⟩), .agg #[.int .i64 z0, .int .i64 z1, .int .i64 z2, .int .i64 z3, .int .i64 z4, .int .i64 z5, .int .i64 z6, .int .i64 z7, .int .i64 z8, .slice la ms.length lc], .bool false, .bool false, undef, undef, undef, .bool false, undef, undef, undef, undef, .pointer (some ⟨E, 7, none⟩), .int .i64 z7, .pointer (some ⟨E, 2, none⟩), .int .i64 z2, .pointer (some ⟨E, 9, none⟩), .slice la ms.length lc, .func (.func 75) #[] #[.pointer (some ⟨b1, 0, none⟩), .pointer (some ⟨b2, 0, none⟩)], mvV x, undef, undef, undef, undef, undef, undef], defers := [] }) ?assignFA ?roundFA ?doneFA ?stopFA
      case h0FA => exact St.move (l := [_, _, _, _, _]) (T := []) a4 5 rfl [2, 3, 4, 0, 1] (by decide)
      case assignFA =>
        intro l' x W' C hC
        gi_wp2
        exact hC
      case roundFA =>
        rintro l' T' pre x B W' ⟨r, hr⟩ ⟨_, ⟨rfl, hle⟩, hs⟩
        obtain ⟨xst, xwr, xce, xx, xow, xga⟩ := x
        have hfl : pre.length + 1 ≤ ms.length := by
          have h1 : (pre ++ (⟨xst, xwr, xce, xx, xow, xga⟩ : Mv) :: r).length ≤ ms.length := by rw [hr]; exact List.length_filter_le _ _
          simp only [List.length_append, List.length_cons] at h1
          omega
        have HEN : Hid (∀ a W, St w ([boxI S #[.int .i64 xga] 3, boxI (S + 1) #[.int .i64 xst] 3, boxI E #[.int .i64 z0, .int .i64 z1, .int .i64 z2, .int .i64 z3, .int .i64 z4, .int .i64 z5, .int .i64 z6, .int .i64 z7, .int .i64 z8, .slice la ms.length lc] 44] ++ (thRqMove b1 b2 58 la ms.length lc ++ (boxI B #[.int .i64 xst, .bool xwr, .int .i64 xce, .int .i64 xx, .bool xow, .int .i64 xga] 46 :: T'))) W → EndsR w (ptK S (S + 1) E #[.int .i64 z0, .int .i64 z1, .int .i64 z2, .int .i64 z3, .int .i64 z4, .int .i64 z5, .int .i64 z6, .int .i64 z7, .int .i64 z8, .slice la ms.length lc] z7 z2 ms.length) (fun c pre X => False) (thRqMove b1 b2 58 la ms.length lc ++ (boxI B #[.int .i64 xst, .bool xwr, .int .i64 xce, .int .i64 xx, .bool xow, .int .i64 xga] 46 :: T')) (pre ++ [(⟨xst, xwr, xce, xx, xow, xga⟩ : Mv)]) .normal a W) := hid (fun a W h => ⟨_, ⟨by rw [lastM_snoc], hid (by simp; omega)⟩, h⟩)
        generalize EndsR w (ptK S (S + 1) E #[.int .i64 z0, .int .i64 z1, .int .i64 z2, .int .i64 z3, .int .i64 z4, .int .i64 z5, .int .i64 z6, .int .i64 z7, .int .i64 z8, .slice la ms.length lc] z7 z2 ms.length) (fun c pre X => False) (thRqMove b1 b2 58 la ms.length lc ++ (boxI B #[.int .i64 xst, .bool xwr, .int .i64 xce, .int .i64 xx, .bool xow, .int .i64 xga] 46 :: T')) (pre ++ [(⟨xst, xwr, xce, xx, xow, xga⟩ : Mv)]) = EN at *
        generalize (lastM (z7, z2) pre).1 = y1 at *
        generalize (lastM (z7, z2) pre).2 = y2 at *
        have sA := hs.calm (Kept.refl _ _).drew
        have e5 := sA.cell 5 rfl 5
        have e0 := sA.cell 5 rfl 0
        have k4 := sA.cell 0 rfl 0
        have f4 := sA.frozen 0 rfl 0
        have sB := sA.write 0 rfl 0 (.int .i64 xga)
        have sC0 := hs.write 0 rfl 0 (.int .i64 xga)
        have sC1 := sC0.calm (Kept.refl _ _).drew
        have m5 := sC1.cell 1 rfl 0
        have n5 := sC1.frozen 1 rfl 0
        have m0 := sC1.cell 5 rfl 0
        clear sC1 sC0
        have HSC := hid (((hs.write 0 rfl 0 (.int .i64 xga)).write 1 rfl 0 (.int .i64 xst)).calm (Kept.refl _ _).drew)
        clear hs sA sB hr hfl hle
        gi_wp2
        gi_region
        all_goals gi_wp2
        all_goals exact HEN.out _ _ HSC.out
      case doneFA =>
        rintro D xs W' rfl ⟨_, ⟨rfl, hle⟩, hs⟩
        have hs1 := (St.move (l := [_, _, _, _]) hs 4 rfl [3, 0, 1, 2] (by decide))
        have sD := hs1.calm (Kept.refl _ _).drew
        have e4 := sD.cell 1 rfl 0
        have e5 := sD.cell 2 rfl 0
        have hd : W'.drew.heap[D]? = some (.deferred (some [])) := sD.get 0 rfl
        have hP := hid sD.shutD.same
        clear hs hs1 hle
        gi_wp2
        gi_region
        all_goals gi_wp2
        all_goals refine ⟨by simp, .inl ⟨_, _, rfl, run_takeDeferred hd, ?_⟩⟩
        all_goals exact ⟨_, by simp [results, Try.f42, go_sem], rfl, hP.out⟩
      case stopFA =>
        rintro D c pre W' _ ⟨_, hf, _⟩
        exact hf.elim
    · skip
      have s3 := (((HA1.out.calm HK3.out).box #[.int .i64 z2] 3).box #[.int .i64 z7] 3).calm (Kept.refl _ _).drew
      simp only [alloc_size] at s3
      generalize ((w2.alloc (.cells #[.int .i64 z2] 3)).alloc (.cells #[.int .i64 z7] 3)).drew = w3 at *
      generalize w2.heap.size = S at *
      clear c0 c1 c2 c3 c4 c5 c6 c7 c8 c9 d2 d7 e2 e7 f2 g2 kA kB HKB CE HCW HA1 HK3 hw1 hE hC
      have hT := thoseMove_any s3 la ms.length lc 58
      have c9 := s3.cell 2 rfl 9
      clear s3
      gi_wp2_with (first | (gi_at_call 57; refine (callsIn_wide.2 hT).mono ?_; rintro e w4 ⟨b1, b2, rfl, a4⟩))
      clear c9 hT
      refine rf_law2 (o := w) (T := []) (enc := mvV) rfl (enters_of Try.func75 (by kernel_rfl) rfl) (those_looksOut (lc := lc) HHL.out (by omega) b1 b2) rfl (ptK (S + 1) S E #[.int .i64 z0, .int .i64 z1, .int .i64 z2, .int .i64 z3, .int .i64 z4, .int .i64 z5, .int .i64 z6, .int .i64 z7, .int .i64 z8, .slice la ms.length lc] z7 z2 ms.length) (fun c pre X => False) ms.length (fun pre X hX => hX.2.out) ⟨_, ⟨rfl, hid (by simp)⟩, ?h0FB⟩ (fun x => #[.int .i64 x.st, .bool x.wr, .int .i64 x.ce, .int .i64 x.x, .bool x.ow, .int .i64 x.ga]) 46 (fun x B => { tmps := #[.agg #[.int .i64 z0, .int .i64 z1, .int .i64 z2, .int .i64 z3, .int .i64 z4, .int .i64 z5, .int .i64 z6, .int .i64 z7, .int .i64 z8, .slice la ms.length lc], .pointer (some ⟨E, 0, none⟩), .int .i64 0, .int .i64 0, .pointer (some ⟨S + 1, 0, none⟩), .pointer (some ⟨S, 0, none⟩), .pointer (some ⟨B, 0, none⟩), .agg #[.int .i64 z0, .int .i64 z1, .int .i64 z2, .int .i64 z3, .int .i64 z4, .int .i64 z5, .int .i64 z6, .int .i64 z7, .int .i64 z8, .slice la ms.length lc], .bool false, .bool false, undef, undef, undef, .bool false, undef, undef, undef, undef, .pointer (some ⟨E, 7, none⟩), .int .i64 z7, .pointer (some ⟨E, 2, none⟩), .int .i64 z2, .pointer (some ⟨E, 9, none⟩), .slice la ms.length lc, .func (.func 75) #[] #[.pointer (some ⟨b1, 0, none⟩), .pointer (some ⟨b2, 0, none⟩)], mvV x, undef, undef, undef, undef, undef, undef], defers := [] }) ?assignFB ?roundFB ?doneFB ?stopFB
      case h0FB => exact St.move (l := [_, _, _, _, _]) (T := []) a4 5 rfl [2, 3, 4, 0, 1] (by decide)
      case assignFB =>
        intro l' x W' C hC
        gi_wp2
        exact hC
      case roundFB =>
        rintro l' T' pre x B W' ⟨r, hr⟩ ⟨_, ⟨rfl, hle⟩, hs⟩
        obtain ⟨xst, xwr, xce, xx, xow, xga⟩ := x
        have hfl : pre.length + 1 ≤ ms.length := by
          have h1 : (pre ++ (⟨xst, xwr, xce, xx, xow, xga⟩ : Mv) :: r).length ≤ ms.length := by rw [hr]; exact List.length_filter_le _ _
          simp only [List.length_append, List.length_cons] at h1
          omega
        have HEN : Hid (∀ a W, St w ([boxI (S + 1) #[.int .i64 xga] 3, boxI S #[.int .i64 xst] 3, boxI E #[.int .i64 z0, .int .i64 z1, .int .i64 z2, .int .i64 z3, .int .i64 z4, .int .i64 z5, .int .i64 z6, .int .i64 z7, .int .i64 z8, .slice la ms.length lc] 44] ++ (thRqMove b1 b2 58 la ms.length lc ++ (boxI B #[.int .i64 xst, .bool xwr, .int .i64 xce, .int .i64 xx, .bool xow, .int .i64 xga] 46 :: T'))) W → EndsR w (ptK (S + 1) S E #[.int .i64 z0, .int .i64 z1, .int .i64 z2, .int .i64 z3, .int .i64 z4, .int .i64 z5, .int .i64 z6, .int .i64 z7, .int .i64 z8, .slice la ms.length lc] z7 z2 ms.length) (fun c pre X => False) (thRqMove b1 b2 58 la ms.length lc ++ (boxI B #[.int .i64 xst, .bool xwr, .int .i64 xce, .int .i64 xx, .bool xow, .int .i64 xga] 46 :: T')) (pre ++ [(⟨xst, xwr, xce, xx, xow, xga⟩ : Mv)]) .normal a W) := hid (fun a W h => ⟨_, ⟨by rw [lastM_snoc], hid (by simp; omega)⟩, h⟩)
        generalize EndsR w (ptK (S + 1) S E #[.int .i64 z0, .int .i64 z1, .int .i64 z2, .int .i64 z3, .int .i64 z4, .int .i64 z5, .int .i64 z6, .int .i64 z7, .int .i64 z8, .slice la ms.length lc] z7 z2 ms.length) (fun c pre X => False) (thRqMove b1 b2 58 la ms.length lc ++ (boxI B #[.int .i64 xst, .bool xwr, .int .i64 xce, .int .i64 xx, .bool xow, .int .i64 xga] 46 :: T')) (pre ++ [(⟨xst, xwr, xce, xx, xow, xga⟩ : Mv)]) = EN at *
        generalize (lastM (z7, z2) pre).1 = y1 at *
        generalize (lastM (z7, z2) pre).2 = y2 at *
        have sA := hs.calm (Kept.refl _ _).drew
        have e5 := sA.cell 5 rfl 5
        have e0 := sA.cell 5 rfl 0
        have k4 := sA.cell 0 rfl 0
        have f4 := sA.frozen 0 rfl 0
        have sB := sA.write 0 rfl 0 (.int .i64 xga)
        have sC0 := hs.write 0 rfl 0 (.int .i64 xga)
        have sC1 := sC0.calm (Kept.refl _ _).drew
        have m5 := sC1.cell 1 rfl 0
        have n5 := sC1.frozen 1 rfl 0
        have m0 := sC1.cell 5 rfl 0
        clear sC1 sC0
        have HSC := hid (((hs.write 0 rfl 0 (.int .i64 xga)).write 1 rfl 0 (.int .i64 xst)).calm (Kept.refl _ _).drew)
        clear hs sA sB hr hfl hle
        gi_wp2
        gi_region
        all_goals gi_wp2
        all_goals exact HEN.out _ _ HSC.out
      case doneFB =>
        rintro D xs W' rfl ⟨_, ⟨rfl, hle⟩, hs⟩
        have hs1 := (St.move (l := [_, _, _, _]) hs 4 rfl [3, 0, 1, 2] (by decide))
        have sD := hs1.calm (Kept.refl _ _).drew
        have e4 := sD.cell 1 rfl 0
        have e5 := sD.cell 2 rfl 0
        have hd : W'.drew.heap[D]? = some (.deferred (some [])) := sD.get 0 rfl
        have hP := hid sD.shutD.same
        clear hs hs1 hle
        gi_wp2
        gi_region
        all_goals gi_wp2
        all_goals refine ⟨by simp, .inl ⟨_, _, rfl, run_takeDeferred hd, ?_⟩⟩
        all_goals exact ⟨_, by simp [results, Try.f42, go_sem], rfl, hP.out⟩
      case stopFB =>
        rintro D c pre W' _ ⟨_, hf, _⟩
        exact hf.elim
  | true =>
    have hpu : ms.any Mv.puts = false := by
      cases h2 : ms.any Mv.puts
      · rfl
      · exact absurd ⟨by simpa using h1, h2⟩ hpp
    rw [hpu] at HCW
    simp only [Sm.commits, h1] at hC
    clear a1 hl hpp hpu
    gi_wp2_with (first | simp only [hw1, hE] | (gi_at_call 54; refine (callsIn_wide.2 hC).mono ?_; rintro e wq ⟨rfl, hk2⟩; obtain ⟨c0, c1, c2, c3, c4, c5, c6, c7, c8, c9⟩ := CE.out _ hk2; have hCW := HCW.out _ hk2; clear hk2) | (gi_at_call 55; refine (callsIn_wide.2 hCW).mono ?_; rintro e w2 ⟨rfl, hk3⟩; have HK3 := hid hk3; clear hk3))
    clear hCW
    obtain ⟨c0, c1, c2, c3, c4, c5, c6, c7, c8, c9⟩ := CE.out _ HK3.out.drew
    have kA := kept_alloc w2 (.cells #[.int .i64 0] 3)
    have kB := kA.trans (kept_alloc (w2.alloc (.cells #[.int .i64 0] 3)) (.cells #[.int .i64 0] 3)) (fun _ _ f => f)
    obtain ⟨-, -, d2, -, -, -, -, d7, -, -⟩ := CE.out _ (HK3.out.trans kA.drew (fun _ _ f => f))
    obtain ⟨-, -, e2, -, -, -, -, e7, -, -⟩ := CE.out _ (HK3.out.trans kB.drew (fun _ _ f => f))
    have HKB := hid (fun (x y : Int) => (kept_alloc w2 (.cells #[.int .i64 x] 3)).trans (kept_alloc (w2.alloc (.cells #[.int .i64 x] 3)) (.cells #[.int .i64 y] 3)) (fun _ _ f => f))
    obtain ⟨-, -, f2, -⟩ := CE.out _ (HK3.out.trans (HKB.out z7 0).drew (fun _ _ f => f))
    obtain ⟨-, -, g2, -⟩ := CE.out _ (HK3.out.trans (HKB.out 0 z7).drew (fun _ _ f => f))
    gi_region
    · skip
      have s3 := ((((HA1.out.calm HK3.out).box #[.int .i64 z7] 3).box #[.int .i64 z2] 3).perm (List.Perm.swap _ _ _)).calm (Kept.refl _ _).drew
      simp only [alloc_size] at s3
      generalize ((w2.alloc (.cells #[.int .i64 z7] 3)).alloc (.cells #[.int .i64 z2] 3)).drew = w3 at *
      generalize w2.heap.size = S at *
      clear c0 c1 c2 c3 c4 c5 c6 c7 c8 c9 d2 d7 e2 e7 f2 g2 kA kB HKB CE HCW HA1 HK3 hw1 hE hC
      have hT := thoseMove_any s3 la ms.length lc 58
      have c9 := s3.cell 2 rfl 9
      clear s3
      gi_wp2_with (first | (gi_at_call 57; refine (callsIn_wide.2 hT).mono ?_; rintro e w4 ⟨b1, b2, rfl, a4⟩))
      clear c9 hT
      refine rf_law2 (o := w) (T := []) (enc := mvV) rfl (enters_of Try.func75 (by kernel_rfl) rfl) (those_looksOut (lc := lc) HHL.out (by omega) b1 b2) rfl (ptK S (S + 1) E #[.int .i64 z0, .int .i64 z1, .int .i64 z2, .int .i64 z3, .int .i64 z4, .int .i64 z5, .int .i64 z6, .int .i64 z7, .int .i64 z8, .slice la ms.length lc] z7 z2 ms.length) (fun c pre X => False) ms.length (fun pre X hX => hX.2.out) ⟨_, ⟨rfl, hid (by simp)⟩, ?h0TA⟩ (fun x => #[.int .i64 x.st, .bool x.wr, .int .i64 x.ce, .int .i64 x.x, .bool x.ow, .int .i64 x.ga]) 46 (fun x B => { tmps := #[.agg #[.int .i64 z0, .int .i64 z1, .int .i64 z2, .int .i64 z3, .int .i64 z4, .int .i64 z5, .int .i64 z6, .int .i64 z7, .int .i64 z8, .slice la ms.length lc], .pointer (some ⟨E, 0, none⟩), .int .i64 0, .int .i64 0, .pointer (some ⟨S, 0, none⟩), .pointer (some ⟨S + 1, 0, none⟩), .pointer (some ⟨B, 0, none⟩), .agg #[.int .i64 z0, .int .i64 z1, .int .i64 z2, .int .i64 z3, .int .i64 z4, .int .i64 z5, .int .i64 z6, .int .i64 z7, .int .i64 z8, .slice la ms.length lc], .bool true, .bool true, .pointer (some ⟨E, 9, none⟩), .slice la ms.length lc, .bool false, .bool false, undef, undef, undef, undef, .pointer (some ⟨E, 7, none⟩), .int .i64 z7, .pointer (some ⟨E, 2, none⟩), .int .i64 z2, .pointer (some ⟨E, 9, none⟩), .slice la ms.length lc, .func (.func 75) #[] #[.pointer (some ⟨b1, 0, none⟩), .pointer (some ⟨b2, 0, none⟩)], mvV x, undef, undef, undef, undef, undef, undef], defers := [] }) ?assignTA ?roundTA ?doneTA ?stopTA
      case h0TA => exact St.move (l := [_, _, _, _, _]) (T := []) a4 5 rfl [2, 3, 4, 0, 1] (by decide)
      case assignTA =>
        intro l' x W' C hC
        gi_wp2
        exact hC
      case roundTA =>
        rintro l' T' pre x B W' ⟨r, hr⟩ ⟨_, ⟨rfl, hle⟩, hs⟩
        obtain ⟨xst, xwr, xce, xx, xow, xga⟩ := x
        have hfl : pre.length + 1 ≤ ms.length := by
          have h1 : (pre ++ (⟨xst, xwr, xce, xx, xow, xga⟩ : Mv) :: r).length ≤ ms.length := by rw [hr]; exact List.length_filter_le _ _
          simp only [List.length_append, List.length_cons] at h1
          omega
        have HEN : Hid (∀ a W, St w ([boxI S #[.int .i64 xga] 3, boxI (S + 1) #[.int .i64 xst] 3, boxI E #[.int .i64 z0, .int .i64 z1, .int .i64 z2, .int .i64 z3, .int .i64 z4, .int .i64 z5, .int .i64 z6, .int .i64 z7, .int .i64 z8, .slice la ms.length lc] 44] ++ (thRqMove b1 b2 58 la ms.length lc ++ (boxI B #[.int .i64 xst, .bool xwr, .int .i64 xce, .int .i64 xx, .bool xow, .int .i64 xga] 46 :: T'))) W → EndsR w (ptK S (S + 1) E #[.int .i64 z0, .int .i64 z1, .int .i64 z2, .int .i64 z3, .int .i64 z4, .int .i64 z5, .int .i64 z6, .int .i64 z7, .int .i64 z8, .slice la ms.length lc] z7 z2 ms.length) (fun c pre X => False) (thRqMove b1 b2 58 la ms.length lc ++ (boxI B #[.int .i64 xst, .bool xwr, .int .i64 xce, .int .i64 xx, .bool xow, .int .i64 xga] 46 :: T')) (pre ++ [(⟨xst, xwr, xce, xx, xow, xga⟩ : Mv)]) .normal a W) := hid (fun a W h => ⟨_, ⟨by rw [lastM_snoc], hid (by simp; omega)⟩, h⟩)
        generalize EndsR w (ptK S (S + 1) E #[.int .i64 z0, .int .i64 z1, .int .i64 z2, .int .i64 z3, .int .i64 z4, .int .i64 z5, .int .i64 z6, .int .i64 z7, .int .i64 z8, .slice la ms.length lc] z7 z2 ms.length) (fun c pre X => False) (thRqMove b1 b2 58 la ms.length lc ++ (boxI B #[.int .i64 xst, .bool xwr, .int .i64 xce, .int .i64 xx, .bool xow, .int .i64 xga] 46 :: T')) (pre ++ [(⟨xst, xwr, xce, xx, xow, xga⟩ : Mv)]) = EN at *
        generalize (lastM (z7, z2) pre).1 = y1 at *
        generalize (lastM (z7, z2) pre).2 = y2 at *
        have sA := hs.calm (Kept.refl _ _).drew
        have e5 := sA.cell 5 rfl 5
        have e0 := sA.cell 5 rfl 0
        have k4 := sA.cell 0 rfl 0
        have f4 := sA.frozen 0 rfl 0
        have sB := sA.write 0 rfl 0 (.int .i64 xga)
        have sC0 := hs.write 0 rfl 0 (.int .i64 xga)
        have sC1 := sC0.calm (Kept.refl _ _).drew
        have m5 := sC1.cell 1 rfl 0
        have n5 := sC1.frozen 1 rfl 0
        have m0 := sC1.cell 5 rfl 0
        clear sC1 sC0
        have HSC := hid (((hs.write 0 rfl 0 (.int .i64 xga)).write 1 rfl 0 (.int .i64 xst)).calm (Kept.refl _ _).drew)
        clear hs sA sB hr hfl hle
        gi_wp2
        gi_region
        all_goals gi_wp2
        all_goals exact HEN.out _ _ HSC.out
      case doneTA =>
        rintro D xs W' rfl ⟨_, ⟨rfl, hle⟩, hs⟩
        have hs1 := (St.move (l := [_, _, _, _]) hs 4 rfl [3, 0, 1, 2] (by decide))
        have sD := hs1.calm (Kept.refl _ _).drew
        have e4 := sD.cell 1 rfl 0
        have e5 := sD.cell 2 rfl 0
        have hd : W'.drew.heap[D]? = some (.deferred (some [])) := sD.get 0 rfl
        have hP := hid sD.shutD.same
        clear hs hs1 hle
        gi_wp2
        gi_region
        all_goals gi_wp2
        all_goals refine ⟨by simp, .inl ⟨_, _, rfl, run_takeDeferred hd, ?_⟩⟩
        all_goals exact ⟨_, by simp [results, Try.f42, go_sem], rfl, hP.out⟩
      case stopTA =>
        rintro D c pre W' _ ⟨_, hf, _⟩
        exact hf.elim
    · skip
      have s3 := (((HA1.out.calm HK3.out).box #[.int .i64 z2] 3).box #[.int .i64 z7] 3).calm (Kept.refl _ _).drew
      simp only [alloc_size] at s3
      generalize ((w2.alloc (.cells #[.int .i64 z2] 3)).alloc (.cells #[.int .i64 z7] 3)).drew = w3 at *
      generalize w2.heap.size = S at *
      clear c0 c1 c2 c3 c4 c5 c6 c7 c8 c9 d2 d7 e2 e7 f2 g2 kA kB HKB CE HCW HA1 HK3 hw1 hE hC
      have hT := thoseMove_any s3 la ms.length lc 58
      have c9 := s3.cell 2 rfl 9
      clear s3
      gi_wp2_with (first | (gi_at_call 57; refine (callsIn_wide.2 hT).mono ?_; rintro e w4 ⟨b1, b2, rfl, a4⟩))
      clear c9 hT
      refine rf_law2 (o := w) (T := []) (enc := mvV) rfl (enters_of Try.func75 (by kernel_rfl) rfl) (those_looksOut (lc := lc) HHL.out (by omega) b1 b2) rfl (ptK (S + 1) S E #[.int .i64 z0, .int .i64 z1, .int .i64 z2, .int .i64 z3, .int .i64 z4, .int .i64 z5, .int .i64 z6, .int .i64 z7, .int .i64 z8, .slice la ms.length lc] z7 z2 ms.length) (fun c pre X => False) ms.length (fun pre X hX => hX.2.out) ⟨_, ⟨rfl, hid (by simp)⟩, ?h0TB⟩ (fun x => #[.int .i64 x.st, .bool x.wr, .int .i64 x.ce, .int .i64 x.x, .bool x.ow, .int .i64 x.ga]) 46 (fun x B => { tmps := #[.agg #[.int .i64 z0, .int .i64 z1, .int .i64 z2, .int .i64 z3, .int .i64 z4, .int .i64 z5, .int .i64 z6, .int .i64 z7, .int .i64 z8, .slice la ms.length lc], .pointer (some ⟨E, 0, none⟩), .int .i64 0, .int .i64 0, .pointer (some ⟨S + 1, 0, none⟩), .pointer (some ⟨S, 0, none⟩), .pointer (some ⟨B, 0, none⟩), .agg #[.int .i64 z0, .int .i64 z1, .int .i64 z2, .int .i64 z3, .int .i64 z4, .int .i64 z5, .int .i64 z6, .int .i64 z7, .int .i64 z8, .slice la ms.length lc], .bool true, .bool true, .pointer (some ⟨E, 9, none⟩), .slice la ms.length lc, .bool false, .bool false, undef, undef, undef, undef, .pointer (some ⟨E, 7, none⟩), .int .i64 z7, .pointer (some ⟨E, 2, none⟩), .int .i64 z2, .pointer (some ⟨E, 9, none⟩), .slice la ms.length lc, .func (.func 75) #[] #[.pointer (some ⟨b1, 0, none⟩), .pointer (some ⟨b2, 0, none⟩)], mvV x, undef, undef, undef, undef, undef, undef], defers := [] }) ?assignTB ?roundTB ?doneTB ?stopTB
      case h0TB => exact St.move (l := [_, _, _, _, _]) (T := []) a4 5 rfl [2, 3, 4, 0, 1] (by decide)
      case assignTB =>
        intro l' x W' C hC
        gi_wp2
        exact hC
      case roundTB =>
        rintro l' T' pre x B W' ⟨r, hr⟩ ⟨_, ⟨rfl, hle⟩, hs⟩
        obtain ⟨xst, xwr, xce, xx, xow, xga⟩ := x
        have hfl : pre.length + 1 ≤ ms.length := by
          have h1 : (pre ++ (⟨xst, xwr, xce, xx, xow, xga⟩ : Mv) :: r).length ≤ ms.length := by rw [hr]; exact List.length_filter_le _ _
          simp only [List.length_append, List.length_cons] at h1
          omega
        have HEN : Hid (∀ a W, St w ([boxI (S + 1) #[.int .i64 xga] 3, boxI S #[.int .i64 xst] 3, boxI E #[.int .i64 z0, .int .i64 z1, .int .i64 z2, .int .i64 z3, .int .i64 z4, .int .i64 z5, .int .i64 z6, .int .i64 z7, .int .i64 z8, .slice la ms.length lc] 44] ++ (thRqMove b1 b2 58 la ms.length lc ++ (boxI B #[.int .i64 xst, .bool xwr, .int .i64 xce, .int .i64 xx, .bool xow, .int .i64 xga] 46 :: T'))) W → EndsR w (ptK (S + 1) S E #[.int .i64 z0, .int .i64 z1, .int .i64 z2, .int .i64 z3, .int .i64 z4, .int .i64 z5, .int .i64 z6, .int .i64 z7, .int .i64 z8, .slice la ms.length lc] z7 z2 ms.length) (fun c pre X => False) (thRqMove b1 b2 58 la ms.length lc ++ (boxI B #[.int .i64 xst, .bool xwr, .int .i64 xce, .int .i64 xx, .bool xow, .int .i64 xga] 46 :: T')) (pre ++ [(⟨xst, xwr, xce, xx, xow, xga⟩ : Mv)]) .normal a W) := hid (fun a W h => ⟨_, ⟨by rw [lastM_snoc], hid (by simp; omega)⟩, h⟩)
        generalize EndsR w (ptK (S + 1) S E #[.int .i64 z0, .int .i64 z1, .int .i64 z2, .int .i64 z3, .int .i64 z4, .int .i64 z5, .int .i64 z6, .int .i64 z7, .int .i64 z8, .slice la ms.length lc] z7 z2 ms.length) (fun c pre X => False) (thRqMove b1 b2 58 la ms.length lc ++ (boxI B #[.int .i64 xst, .bool xwr, .int .i64 xce, .int .i64 xx, .bool xow, .int .i64 xga] 46 :: T')) (pre ++ [(⟨xst, xwr, xce, xx, xow, xga⟩ : Mv)]) = EN at *
        generalize (lastM (z7, z2) pre).1 = y1 at *
        generalize (lastM (z7, z2) pre).2 = y2 at *
        have sA := hs.calm (Kept.refl _ _).drew
        have e5 := sA.cell 5 rfl 5
        have e0 := sA.cell 5 rfl 0
        have k4 := sA.cell 0 rfl 0
        have f4 := sA.frozen 0 rfl 0
        have sB := sA.write 0 rfl 0 (.int .i64 xga)
        have sC0 := hs.write 0 rfl 0 (.int .i64 xga)
        have sC1 := sC0.calm (Kept.refl _ _).drew
        have m5 := sC1.cell 1 rfl 0
        have n5 := sC1.frozen 1 rfl 0
        have m0 := sC1.cell 5 rfl 0
        clear sC1 sC0
        have HSC := hid (((hs.write 0 rfl 0 (.int .i64 xga)).write 1 rfl 0 (.int .i64 xst)).calm (Kept.refl _ _).drew)
        clear hs sA sB hr hfl hle
        gi_wp2
        gi_region
        all_goals gi_wp2
        all_goals exact HEN.out _ _ HSC.out
      case doneTB =>
        rintro D xs W' rfl ⟨_, ⟨rfl, hle⟩, hs⟩
        have hs1 := (St.move (l := [_, _, _, _]) hs 4 rfl [3, 0, 1, 2] (by decide))
        have sD := hs1.calm (Kept.refl _ _).drew
        have e4 := sD.cell 1 rfl 0
        have e5 := sD.cell 2 rfl 0
        have hd : W'.drew.heap[D]? = some (.deferred (some [])) := sD.get 0 rfl
        have hP := hid sD.shutD.same
        clear hs hs1 hle
        gi_wp2
        gi_region
        all_goals gi_wp2
        all_goals refine ⟨by simp, .inl ⟨_, _, rfl, run_takeDeferred hd, ?_⟩⟩
        all_goals exact ⟨_, by simp [results, Try.f42, go_sem], rfl, hP.out⟩
      case stopTB =>
        rintro D c pre W' _ ⟨_, hf, _⟩
        exact hf.elim
end Go.Proofs.Ytnmlnjljmikmpaa
