/- The document's order: ahead. -/
import Derived.Test.YtnmlnjljmikmpaaOy
import Derived.Test.YtnmlnjljmikmpaaHb
namespace Go.Proofs.Ytnmlnjljmikmpaa
open Go.RowKit Go.Shelf
set_option linter.unusedVariables false
set_option linter.unusedSimpArgs false
attribute [local go_sem ↓] Go.wp_at_zero Go.wp_at_succ

set_option maxRecDepth 100000 in
set_option maxHeartbeats 4000000 in
theorem rAhead_any {w : World} (m o : Sm) (hm : SIn w m) (ho : SIn w o) : Calls Try.prog 47 #[syV m, syV o] w fun e w' => e = .returned (.bool (ltK (ptOf m.s) (ptOf o.s))) ∧ Kept (fun _ => False) w w' := by
  have HP1 := hid (fun W (k : Kept (fun _ => False) w W) => rPoint_any m (hm.kept k))
  have HP2 := hid (fun W (k : Kept (fun _ => False) w W) => rPoint_any o (ho.kept k))
  have HW1 := hid (fun W (k : Kept (fun _ => False) w W) => rWriter_any m (hm.kept k))
  have HW2 := hid (fun W (k : Kept (fun _ => False) w W) => rWriter_any o (ho.kept k))
  unfold ltK ptOf
  simp only
  clear hm ho
  generalize writerM m.s = b1 at *
  generalize writerM o.s = b2 at *
  generalize (pointM m.s).1 = x1 at *
  generalize (pointM m.s).2 = y1 at *
  generalize (pointM o.s).1 = x2 at *
  generalize (pointM o.s).2 = y2 at *
  obtain ⟨⟨z0, z1, z2, z3, z4, z5, z6, z7, z8, ms⟩, la, lc⟩ := m
  obtain ⟨⟨u0, u1, u2, u3, u4, u5, u6, u7, u8, ns⟩, oa, oc⟩ := o
  unfold syV at *
  simp only at *
  have a1 := ((St.nil w).box #[.int .i64 z0, .int .i64 z1, .int .i64 z2, .int .i64 z3, .int .i64 z4, .int .i64 z5, .int .i64 z6, .int .i64 z7, .int .i64 z8, .slice la ms.length lc] 44).box #[.int .i64 u0, .int .i64 u1, .int .i64 u2, .int .i64 u3, .int .i64 u4, .int .i64 u5, .int .i64 u6, .int .i64 u7, .int .i64 u8, .slice oa ns.length oc] 44
  rw [alloc_size] at a1
  generalize hw1 : (w.alloc (.cells #[.int .i64 z0, .int .i64 z1, .int .i64 z2, .int .i64 z3, .int .i64 z4, .int .i64 z5, .int .i64 z6, .int .i64 z7, .int .i64 z8, .slice la ms.length lc] 44)).alloc (.cells #[.int .i64 u0, .int .i64 u1, .int .i64 u2, .int .i64 u3, .int .i64 u4, .int .i64 u5, .int .i64 u6, .int .i64 u7, .int .i64 u8, .slice oa ns.length oc] 44) = w1 at *
  generalize hE : w.heap.size = E at *
  have CE : Hid (∀ W, Kept (fun _ => False) w1 W → (W.cell? ⟨E, 0, none⟩ = some (.int .i64 z0) ∧ W.cell? ⟨E, 1, none⟩ = some (.int .i64 z1) ∧ W.cell? ⟨E, 2, none⟩ = some (.int .i64 z2) ∧ W.cell? ⟨E, 3, none⟩ = some (.int .i64 z3) ∧ W.cell? ⟨E, 4, none⟩ = some (.int .i64 z4) ∧ W.cell? ⟨E, 5, none⟩ = some (.int .i64 z5) ∧ W.cell? ⟨E, 6, none⟩ = some (.int .i64 z6) ∧ W.cell? ⟨E, 7, none⟩ = some (.int .i64 z7) ∧ W.cell? ⟨E, 8, none⟩ = some (.int .i64 z8) ∧ W.cell? ⟨E, 9, none⟩ = some (.slice la ms.length lc)) ∧ (W.cell? ⟨E + 1, 0, none⟩ = some (.int .i64 u0) ∧ W.cell? ⟨E + 1, 1, none⟩ = some (.int .i64 u1) ∧ W.cell? ⟨E + 1, 2, none⟩ = some (.int .i64 u2) ∧ W.cell? ⟨E + 1, 3, none⟩ = some (.int .i64 u3) ∧ W.cell? ⟨E + 1, 4, none⟩ = some (.int .i64 u4) ∧ W.cell? ⟨E + 1, 5, none⟩ = some (.int .i64 u5) ∧ W.cell? ⟨E + 1, 6, none⟩ = some (.int .i64 u6) ∧ W.cell? ⟨E + 1, 7, none⟩ = some (.int .i64 u7) ∧ W.cell? ⟨E + 1, 8, none⟩ = some (.int .i64 u8) ∧ W.cell? ⟨E + 1, 9, none⟩ = some (.slice oa ns.length oc)) ∧ Kept (fun _ => False) w W) := hid (fun W hW => by
    have s := a1.calm hW
    exact ⟨⟨s.cell 1 rfl 0, s.cell 1 rfl 1, s.cell 1 rfl 2, s.cell 1 rfl 3, s.cell 1 rfl 4, s.cell 1 rfl 5, s.cell 1 rfl 6, s.cell 1 rfl 7, s.cell 1 rfl 8, s.cell 1 rfl 9⟩, ⟨s.cell 0 rfl 0, s.cell 0 rfl 1, s.cell 0 rfl 2, s.cell 0 rfl 3, s.cell 0 rfl 4, s.cell 0 rfl 5, s.cell 0 rfl 6, s.cell 0 rfl 7, s.cell 0 rfl 8, s.cell 0 rfl 9⟩, s.same⟩)
  clear a1
  obtain ⟨⟨c0, c1, c2, c3, c4, c5, c6, c7, c8, c9⟩, -, k1⟩ := CE.out _ (Kept.refl _ w1)
  have h1 := HP1.out _ k1
  go_enter Try.func47, Try.ntmps47
  go_upto_region 2 with (first | simp only [hw1, hE] | (go_at_call 70; refine h1.mono ?_; rintro e w2 ⟨rfl, hk2⟩; have K2 := hid hk2; clear hk2))
  clear c0 c1 c2 c3 c4 c5 c6 c7 c8 c9 h1 k1 hw1 hE
  obtain ⟨-, ⟨c0, c1, c2, c3, c4, c5, c6, c7, c8, c9⟩, k2⟩ := CE.out _ K2.out
  have h2 := HP2.out _ k2
  go_upto_region 3 with (go_at_call 70; refine h2.mono ?_; rintro e w3 ⟨rfl, hk3⟩; have K3 := hid (K2.out.trans hk3 (fun _ _ f => f)); clear hk3)
  clear c0 c1 c2 c3 c4 c5 c6 c7 c8 c9 h2 k2
  by_cases hx : x1 = x2
  · subst hx
    have tx : (x1 != x1) = false := by simp
    obtain ⟨⟨c0, c1, c2, c3, c4, c5, c6, c7, c8, c9⟩, -, k3⟩ := CE.out _ K3.out
    have h3 := HW1.out _ k3
    go_upto_region 6 with (go_at_call 71; refine h3.mono ?_; rintro e w4 ⟨rfl, hk4⟩; have K4 := hid (K3.out.trans hk4 (fun _ _ f => f)); clear hk4)
    clear c0 c1 c2 c3 c4 c5 c6 c7 c8 c9 h3 k3
    obtain ⟨-, ⟨c0, c1, c2, c3, c4, c5, c6, c7, c8, c9⟩, k4⟩ := CE.out _ K4.out
    have h4 := HW2.out _ k4
    go_upto_region 7 with (go_at_call 71; refine h4.mono ?_; rintro e w5 ⟨rfl, hk5⟩; have K5 := hid (K4.out.trans hk5 (fun _ _ f => f)); clear hk5)
    clear c0 c1 c2 c3 c4 c5 c6 c7 c8 c9 h4 k4
    have HK := hid (CE.out _ K5.out).2.2
    clear CE HP1 HP2 HW1 HW2
    cases b1 <;> cases b2
    all_goals
      go_wp2
      go_ret
      exact ⟨by simp, HK.out⟩
  · have tx : (x1 != x2) = true := by simpa using hx
    have HK := hid (CE.out _ K3.out).2.2
    have HX := hid hx
    clear CE HP1 HP2 HW1 HW2 hx
    go_wp2
    go_ret
    exact ⟨by simp [HX.out], HK.out⟩
end Go.Proofs.Ytnmlnjljmikmpaa
