/- Package opaque: firstLate. -/
import Derived.Test.YtnmlnjljmikmpaaOf
namespace Go.Proofs.Ytnmlnjljmikmpaa
open Go.RowKit Go.Shelf
set_option linter.unusedVariables false
set_option linter.unusedSimpArgs false
attribute [local go_sem ↓] Go.wp_at_zero Go.wp_at_succ

def smS (L : List Sm) : List Sy := L.map Sm.s
theorem pick_next {l : List Sy} {o : List Int} {j x : Nat} (h : o[j]? = some (x : Int)) : pick l (o.take (j + 1)) = pick l (o.take j) ++ [l.getD x Sy.zero] := by
  have e : o.take (j + 1) = o.take j ++ [(x : Int)] := by rw [List.take_add_one, h]; rfl
  rw [e]
  simp [pick]
theorem smS_at {L : List Sm} {x : Nat} {m : Sm} (h : L[x]? = some m) : (smS L).getD x Sy.zero = m.s := by simp [smS, List.getD_eq_getElem?_getD, h]
theorem late_next {l : List Sy} {o : List Int} {j x : Nat} {g : Int} (h : o[j]? = some (x : Int)) (h0 : lateAt g (pick l (o.take j)) 0 = none) (hj : j ≤ o.length) :
    lateAt g (pick l (o.take (j + 1))) 0 = (if (l.getD x Sy.zero).en ≠ 0 ∧ (l.getD x Sy.zero).en < lateG g (pick l (o.take j)) then some j else none) ∧ lateG g (pick l (o.take (j + 1))) = if (l.getD x Sy.zero).bg > lateG g (pick l (o.take j)) then (l.getD x Sy.zero).bg else lateG g (pick l (o.take j)) := by
  rw [pick_next h, lateAt_append, h0, lateG_append]
  simp only [lateAt, lateG]
  have : (pick l (o.take j)).length = j := by simp [pick]; omega
  rw [this, Nat.zero_add]
  exact ⟨rfl, trivial⟩
theorem late_stays {l : List Sy} {o : List Int} {j k : Nat} {g : Int} (h : lateAt g (pick l (o.take j)) 0 = some k) : lateAt g (pick l o) 0 = some k := by
  have e : pick l o = pick l (o.take j) ++ pick l (o.drop j) := by rw [pick, pick, pick, ← List.map_append, List.take_append_drop]
  rw [e, lateAt_append, h]
/-- A story in a box is written over. -/
theorem box_put {o w : World} {its : List It} {B : Nat} {t : TypeId} {y0 y1 y2 y3 y4 y5 y6 y7 y8 : Int} {v9 : Value} (h : St o (boxI B #[.int .i64 y0, .int .i64 y1, .int .i64 y2, .int .i64 y3, .int .i64 y4, .int .i64 y5, .int .i64 y6, .int .i64 y7, .int .i64 y8, v9] t :: its) w) (z0 z1 z2 z3 z4 z5 z6 z7 z8 : Int) (u9 : Value) :
    St o (boxI B #[.int .i64 z0, .int .i64 z1, .int .i64 z2, .int .i64 z3, .int .i64 z4, .int .i64 z5, .int .i64 z6, .int .i64 z7, .int .i64 z8, u9] t :: its) ((((((((((w.setCell ⟨B, 0, none⟩ (.int .i64 z0)).setCell ⟨B, 1, none⟩ (.int .i64 z1)).setCell ⟨B, 2, none⟩ (.int .i64 z2)).setCell ⟨B, 3, none⟩ (.int .i64 z3)).setCell ⟨B, 4, none⟩ (.int .i64 z4)).setCell ⟨B, 5, none⟩ (.int .i64 z5)).setCell ⟨B, 6, none⟩ (.int .i64 z6)).setCell ⟨B, 7, none⟩ (.int .i64 z7)).setCell ⟨B, 8, none⟩ (.int .i64 z8)).setCell ⟨B, 9, none⟩ (u9)) := by
  have h0 : St o (boxI B #[.int .i64 z0, .int .i64 y1, .int .i64 y2, .int .i64 y3, .int .i64 y4, .int .i64 y5, .int .i64 y6, .int .i64 y7, .int .i64 y8, v9] t :: its) _ := h.write 0 rfl 0 (.int .i64 z0)
  have h1 : St o (boxI B #[.int .i64 z0, .int .i64 z1, .int .i64 y2, .int .i64 y3, .int .i64 y4, .int .i64 y5, .int .i64 y6, .int .i64 y7, .int .i64 y8, v9] t :: its) _ := h0.write 0 rfl 1 (.int .i64 z1)
  have h2 : St o (boxI B #[.int .i64 z0, .int .i64 z1, .int .i64 z2, .int .i64 y3, .int .i64 y4, .int .i64 y5, .int .i64 y6, .int .i64 y7, .int .i64 y8, v9] t :: its) _ := h1.write 0 rfl 2 (.int .i64 z2)
  have h3 : St o (boxI B #[.int .i64 z0, .int .i64 z1, .int .i64 z2, .int .i64 z3, .int .i64 y4, .int .i64 y5, .int .i64 y6, .int .i64 y7, .int .i64 y8, v9] t :: its) _ := h2.write 0 rfl 3 (.int .i64 z3)
  have h4 : St o (boxI B #[.int .i64 z0, .int .i64 z1, .int .i64 z2, .int .i64 z3, .int .i64 z4, .int .i64 y5, .int .i64 y6, .int .i64 y7, .int .i64 y8, v9] t :: its) _ := h3.write 0 rfl 4 (.int .i64 z4)
  have h5 : St o (boxI B #[.int .i64 z0, .int .i64 z1, .int .i64 z2, .int .i64 z3, .int .i64 z4, .int .i64 z5, .int .i64 y6, .int .i64 y7, .int .i64 y8, v9] t :: its) _ := h4.write 0 rfl 5 (.int .i64 z5)
  have h6 : St o (boxI B #[.int .i64 z0, .int .i64 z1, .int .i64 z2, .int .i64 z3, .int .i64 z4, .int .i64 z5, .int .i64 z6, .int .i64 y7, .int .i64 y8, v9] t :: its) _ := h5.write 0 rfl 6 (.int .i64 z6)
  have h7 : St o (boxI B #[.int .i64 z0, .int .i64 z1, .int .i64 z2, .int .i64 z3, .int .i64 z4, .int .i64 z5, .int .i64 z6, .int .i64 z7, .int .i64 y8, v9] t :: its) _ := h6.write 0 rfl 7 (.int .i64 z7)
  have h8 : St o (boxI B #[.int .i64 z0, .int .i64 z1, .int .i64 z2, .int .i64 z3, .int .i64 z4, .int .i64 z5, .int .i64 z6, .int .i64 z7, .int .i64 z8, v9] t :: its) _ := h7.write 0 rfl 8 (.int .i64 z8)
  have h9 : St o (boxI B #[.int .i64 z0, .int .i64 z1, .int .i64 z2, .int .i64 z3, .int .i64 z4, .int .i64 z5, .int .i64 z6, .int .i64 z7, .int .i64 z8, u9] t :: its) _ := h8.write 0 rfl 9 (u9)
  exact h9
set_option maxRecDepth 100000 in
set_option maxHeartbeats 8000000 in
theorem late_any {w : World} {la oa : Option Addr} {n lc k oc : Nat} {L : List Sm} {o : List Int} (hl : LIn w la n L) (ho : RIn iC w oa k o) (hr : ∀ x ∈ o, 0 ≤ x ∧ x < (n : Int)) (hn : (n : Int) ≤ 9223372036854775807) (hk : (k : Int) ≤ 9223372036854775807) :
    Calls Try.prog 28 #[.slice la n lc, .slice oa k oc] w fun e w' => (match lateAt minI (pick (smS L) o) 0 with | some i => e = .returned (.tuple #[.int .i64 i, .bool true]) | none => e = .returned (.tuple #[.int .i64 0, .bool false])) ∧ Kept (fun _ => False) w w' := by
  have HLN := hid hl.1.1
  have HON := hid ho.1
  have s1 := (St.nil w).box #[.int .i64 0, .int .i64 0, .int .i64 (-9223372036854775808), .int .i64 0, .int .i64 0, .int .i64 0, .int .i64 0, .int .i64 0, .int .i64 0, .slice none 0 0] 44
  have HQ : Hid (∀ w', Kept (fun _ => False) w w' → (∀ j k, lateAt minI (pick (smS L) (o.take j)) 0 = some k → (fun e w' => (match lateAt minI (pick (smS L) o) 0 with | some i => e = .returned (.tuple #[.int .i64 i, .bool true]) | none => e = .returned (.tuple #[.int .i64 0, .bool false])) ∧ Kept (fun _ => False) w w') (Ending.returned (.tuple #[.int .i64 k, .bool true])) w') ∧ (lateAt minI (pick (smS L) o) 0 = none → (fun e w' => (match lateAt minI (pick (smS L) o) 0 with | some i => e = .returned (.tuple #[.int .i64 i, .bool true]) | none => e = .returned (.tuple #[.int .i64 0, .bool false])) ∧ Kept (fun _ => False) w w') (Ending.returned (.tuple #[.int .i64 0, .bool false])) w')) := hid (fun w' hw => ⟨fun j k h => by
    refine ⟨?_, hw⟩
    rw [late_stays h], fun h => by
    refine ⟨?_, hw⟩
    rw [h]⟩)
  generalize (fun (e : Ending) (w' : World) => (match lateAt minI (pick (smS L) o) 0 with | some i => e = .returned (.tuple #[.int .i64 i, .bool true]) | none => e = .returned (.tuple #[.int .i64 0, .bool false])) ∧ Kept (fun _ => False) w w') = Q at *
  have HS1 := hid s1
  have HL := hid hl
  have HO := hid ho
  have HR := hid hr
  clear s1 hl ho hr
  go_enter Try.func28, Try.ntmps28
  go_upto_region 3 with fail
  generalize w.alloc (.cells #[.int .i64 0, .int .i64 0, .int .i64 (-9223372036854775808), .int .i64 0, .int .i64 0, .int .i64 0, .int .i64 0, .int .i64 0, .int .i64 0, .slice none 0 0] 44) = w1 at *
  generalize w.heap.size = B at *
  go_loopw [12] (fun i wr => ∃ (j : Nat) (m : Sm), i = .int .i64 j ∧ j ≤ k ∧ lateAt minI (pick (smS L) (o.take j)) 0 = none ∧ m.s.bg = lateG minI (pick (smS L) (o.take j)) ∧ St w [boxI B #[.int .i64 m.s.th, .int .i64 m.s.sp, .int .i64 m.s.bg, .int .i64 m.s.en, .int .i64 m.s.ft, .int .i64 m.s.e, .int .i64 m.s.by_, .int .i64 m.s.op, .int .i64 m.s.ga, .slice m.la m.s.ms.length m.lc] 44] wr) (fun i _ => k - (intOf i).toNat)
  case atStart => exact ⟨0, ⟨⟨0, 0, minI, 0, 0, 0, 0, 0, 0, []⟩, none, 0⟩, rfl, Nat.zero_le _, rfl, rfl, HS1.out⟩
  case round =>
    clear HS1
    obtain ⟨j, ⟨⟨y0, y1, y2, y3, y4, y5, y6, y7, y8, ns⟩, na, nc⟩, rfl, hj, hno, hg, hs⟩ := hrel
    simp only at hg hs
    by_cases hlt : j < k
    · have hlt' : (j : Int) < (k : Int) := by omega
      have hj0 : (0 : Int) ≤ (j : Int) := by omega
      obtain ⟨og, ooff, rfl⟩ := HO.out.addr (by omega)
      obtain ⟨xi, hx⟩ : ∃ x, o[j]? = some x := ⟨_, List.getElem?_eq_getElem (by have := HON.out; omega)⟩
      have hxr := HR.out xi (List.mem_of_getElem? hx)
      obtain ⟨x, rfl⟩ : ∃ x : Nat, xi = (x : Int) := ⟨xi.toNat, by omega⟩
      have hx1 : (x : Int) < (n : Int) := hxr.2
      have hx0 : (0 : Int) ≤ (x : Int) := hxr.1
      obtain ⟨lg, loff, rfl⟩ := HL.out.1.addr (by omega)
      obtain ⟨m, hm⟩ : ∃ m, L[x]? = some m := ⟨_, List.getElem?_eq_getElem (by have := HLN.out; omega)⟩
      obtain ⟨hn1, hn2⟩ := late_next (l := smS L) (g := minI) hx hno (by have := HON.out; omega)
      rw [smS_at hm] at hn1 hn2
      rw [← hg] at hn1 hn2
      obtain ⟨⟨z0, z1, z2, z3, z4, z5, z6, z7, z8, ms⟩, ma, mc⟩ := m
      simp only at hn1 hn2
      have p0 := (HO.out.kept hs.same).at (k := 1) (fun _ => rfl) hx 0 _ rfl
      rw [Nat.mul_one, Nat.add_zero] at p0
      have he := ends_any ⟨⟨z0, z1, z2, z3, z4, z5, z6, z7, z8, ms⟩, ma, mc⟩ ⟨⟨y0, y1, y2, y3, y4, y5, y6, y7, y8, ns⟩, na, nc⟩
      unfold syV ends at he
      simp only at he
      generalize hbb : (z3 != 0 && decide (z3 < y2)) = bb at he
      have HBB : Hid (if bb = true then lateAt minI (pick (smS L) (o.take (j + 1))) 0 = some j else lateAt minI (pick (smS L) (o.take (j + 1))) 0 = none) := hid (by
        rw [hn1, ← hbb]
        by_cases c : z3 ≠ 0 ∧ z3 < y2
        · rw [if_pos c]; simp [c.1, c.2]
        · rw [if_neg c, if_neg (by simpa using c)])
      clear hbb hn1
      have HF : Hid (∀ W, Kept (fun _ => False) wr W → (W.cell? ⟨lg, loff + x * 10, none⟩ = some (.int .i64 z0) ∧ W.cell? ⟨lg, loff + x * 10 + 1, none⟩ = some (.int .i64 z1) ∧ W.cell? ⟨lg, loff + x * 10 + 2, none⟩ = some (.int .i64 z2) ∧ W.cell? ⟨lg, loff + x * 10 + 3, none⟩ = some (.int .i64 z3) ∧ W.cell? ⟨lg, loff + x * 10 + 4, none⟩ = some (.int .i64 z4) ∧ W.cell? ⟨lg, loff + x * 10 + 5, none⟩ = some (.int .i64 z5) ∧ W.cell? ⟨lg, loff + x * 10 + 6, none⟩ = some (.int .i64 z6) ∧ W.cell? ⟨lg, loff + x * 10 + 7, none⟩ = some (.int .i64 z7) ∧ W.cell? ⟨lg, loff + x * 10 + 8, none⟩ = some (.int .i64 z8) ∧ W.cell? ⟨lg, loff + x * 10 + 9, none⟩ = some (.slice ma ms.length mc)) ∧ (W.cell? ⟨B, 0, none⟩ = some (.int .i64 y0) ∧ W.cell? ⟨B, 1, none⟩ = some (.int .i64 y1) ∧ W.cell? ⟨B, 2, none⟩ = some (.int .i64 y2) ∧ W.cell? ⟨B, 3, none⟩ = some (.int .i64 y3) ∧ W.cell? ⟨B, 4, none⟩ = some (.int .i64 y4) ∧ W.cell? ⟨B, 5, none⟩ = some (.int .i64 y5) ∧ W.cell? ⟨B, 6, none⟩ = some (.int .i64 y6) ∧ W.cell? ⟨B, 7, none⟩ = some (.int .i64 y7) ∧ W.cell? ⟨B, 8, none⟩ = some (.int .i64 y8) ∧ W.cell? ⟨B, 9, none⟩ = some (.slice na ns.length nc)) ∧ St w [boxI B #[.int .i64 y0, .int .i64 y1, .int .i64 y2, .int .i64 y3, .int .i64 y4, .int .i64 y5, .int .i64 y6, .int .i64 y7, .int .i64 y8, .slice na ns.length nc] 44] W) := hid (fun W hW => by
        have s := hs.calm hW
        have q := fun i u hu => (HL.out.1.kept s.same).at (k := 10) (fun _ => rfl) hm i u hu
        have q0 := q 0 _ rfl
        rw [Nat.add_zero] at q0
        exact ⟨⟨q0, q 1 _ rfl, q 2 _ rfl, q 3 _ rfl, q 4 _ rfl, q 5 _ rfl, q 6 _ rfl, q 7 _ rfl, q 8 _ rfl, q 9 _ rfl⟩, ⟨s.cell 0 rfl 0, s.cell 0 rfl 1, s.cell 0 rfl 2, s.cell 0 rfl 3, s.cell 0 rfl 4, s.cell 0 rfl 5, s.cell 0 rfl 6, s.cell 0 rfl 7, s.cell 0 rfl 8, s.cell 0 rfl 9⟩, s⟩)
      have HJ : Hid (j + 1 ≤ k ∧ k - (j + 1) < k - j) := hid ⟨by omega, by omega⟩
      have HN2 := hid hn2
      clear hn2 hm hx hxr hno hg hs hj hlt
      go_upto_region 5 with fail
      clear p0
      obtain ⟨⟨a0, a1, a2, a3, a4, a5, a6, a7, a8, a9⟩, ⟨b0, b1, b2, b3, b4, b5, b6, b7, b8, b9⟩, hst⟩ := HF.out _ (Kept.refl _ wr).drew
      clear hst
      refine (fun key : ?KEY ∧ True => ?main) ⟨?keyproof, trivial⟩
      case main =>
        go_region_with (first | (go_at_call 37; refine (he _).mono ?_; rintro e w6 ⟨rfl, hk6⟩; have HK6 := hid ((Kept.refl _ wr).drew.trans hk6 (fun _ _ f => f)); clear hk6))
        all_goals
          revert HK6
          revert w6
          exact key.1
      case keyproof =>
        intro w6 HK6
        clear a0 a1 a2 a3 a4 a5 a6 a7 a8 a9 b0 b1 b2 b3 b4 b5 b6 b7 b8 b9 he
        cases bb with
        | true =>
          have HZ := hid ((HQ.out w6 (((HF.out _ HK6.out).2.2).same)).1 _ _ (by have := HBB.out; simpa using this))
          clear HF HBB HN2
          go_wp2
          exact HZ.out
        | false =>
          have HB2 : Hid (lateAt minI (pick (smS L) (o.take (j + 1))) 0 = none) := hid (by have := HBB.out; simpa using this)
          obtain ⟨⟨a0, a1, a2, a3, a4, a5, a6, a7, a8, a9⟩, ⟨b0, b1, b2, b3, b4, b5, b6, b7, b8, b9⟩, hst⟩ := HF.out _ HK6.out.drew
          clear hst HBB
          go_upto_region 7 with fail
          by_cases hgt : y2 < z2
          · have tg : decide (y2 < z2) = true := by simpa using hgt
            have e2 := HN2.out
            rw [if_pos hgt] at e2
            have HG := hid e2
            clear hgt e2 HN2
            go_region
            have s6 := (HF.out _ HK6.out.drew).2.2
            have HS7 := hid (box_put s6 z0 z1 z2 z3 z4 z5 z6 z7 z8 (.slice ma ms.length mc))
            have f0 := s6.frozen 0 rfl 0
            have f1 := s6.frozen 0 rfl 1
            have f2 := s6.frozen 0 rfl 2
            have f3 := s6.frozen 0 rfl 3
            have f4 := s6.frozen 0 rfl 4
            have f5 := s6.frozen 0 rfl 5
            have f6 := s6.frozen 0 rfl 6
            have f7 := s6.frozen 0 rfl 7
            have f8 := s6.frozen 0 rfl 8
            have f9 := s6.frozen 0 rfl 9
            clear s6 HF
            generalize w6.drew = w7 at *
            go_wp2
            go_roundw
            case rel => exact ⟨j + 1, ⟨⟨z0, z1, z2, z3, z4, z5, z6, z7, z8, ms⟩, ma, mc⟩, by simp, HJ.out.1, HB2.out, HG.out.symm, HS7.out⟩
            case measure => have := HJ.out.2; simp [intOf]; omega
          · have tg : decide (y2 < z2) = false := by simpa using hgt
            have e2 := HN2.out
            rw [if_neg hgt] at e2
            have HG := hid e2
            have HS7 := hid (HF.out _ HK6.out.drew).2.2
            clear hgt e2 HN2 HF
            go_region
            go_wp2
            go_roundw
            case rel => exact ⟨j + 1, ⟨⟨y0, y1, y2, y3, y4, y5, y6, y7, y8, ns⟩, na, nc⟩, by simp, HJ.out.1, HB2.out, HG.out.symm, HS7.out⟩
            case measure => have := HJ.out.2; simp [intOf]; omega
    · have hlt' : ¬ (j : Int) < (k : Int) := by omega
      have e : o.take j = o := List.take_of_length_le (by have := HON.out; omega)
      rw [e] at hno
      have HZ := hid ((HQ.out wr hs.same).2 hno)
      clear hs HL HO HQ e hno hg
      go_wp2
      exact HZ.out
end Go.Proofs.Ytnmlnjljmikmpaa
