/- The document's own machine: load, store, begin, commit. -/
import Derived.Test.YtbpilhjomfkpaaaGreatDoorOwC0
import Derived.Test.YtbpilhjomfkpaaaGreatDoorCpD
namespace Go.Proofs.YtbpilhjomfkpaaaGreatDoor
open Go.RowKit Go.Deep
set_option linter.unusedVariables false
set_option linter.unusedSimpArgs false
attribute [local go_sem ↓] Go.wp_at_zero Go.wp_at_succ

section
variable {b w : World} {X : Nat} {V : OwV} {o : Ow} {R : List It}
theorem OwAt.setInside (h : OwAt b X V o R w) (v : Bool) : OwAt b X V { o with inside := v } R (w.setCell ⟨X, 13, none⟩ (.bool v)) := by
  have s1 := h.st.write 0 rfl 13 (.bool v)
  have e0 : (owL V o).toArray.setIfInBounds 13 (.bool v) = (owL V { o with inside := v }).toArray := by
    rw [List.setIfInBounds_toArray]
    congr 1
    exact owL_setLate h.loc 2 _
  rw [e0] at s1
  exact ⟨s1, h.loc, h.sv⟩
theorem OwAt.setDone (h : OwAt b X V o R w) : OwAt b X V { o with done := true } R (w.setCell ⟨X, 14, none⟩ (.bool true)) := by
  have s1 := h.st.write 0 rfl 14 (.bool true)
  have e0 : (owL V o).toArray.setIfInBounds 14 (.bool true) = (owL V { o with done := true }).toArray := by
    rw [List.setIfInBounds_toArray]
    congr 1
    exact owL_setLate h.loc 3 _
  rw [e0] at s1
  exact ⟨s1, h.loc, h.sv⟩
theorem OwAt.dropHeld (h : OwAt b X V o R w) : OwAt b X { V with h := .slice none 0 0 } { o with held := [] } R (w.setCell ⟨X, 12, none⟩ (.slice none 0 0)) := by
  have s1 := h.st.set 4 rfl (A' := ownI 2 1 (.slice none 0 0) ([] : List Int).length (xC [])) (Kept.refl _ w) (World.ownsRow_nil _ _ _ _) (own_nodup (.slice none 0 0)) (fun c hc => by simp [ownI, Value.ownBlock] at hc)
  have s2 := s1.write 0 rfl 12 (.slice none 0 0)
  have e0 : (owL V o).toArray.setIfInBounds 12 (.slice none 0 0) = (owL { V with h := .slice none 0 0 } { o with held := [] }).toArray := by
    rw [List.setIfInBounds_toArray]
    congr 1
    exact owL_setLate h.loc 1 _
  rw [e0] at s2
  exact ⟨s2, h.loc, h.sv⟩
theorem OwAt.dropWrote (h : OwAt b X V o R w) : OwAt b X { V with r := .slice none 0 0 } { o with wrote := [] } R (w.setCell ⟨X, 17, none⟩ (.slice none 0 0)) := by
  have s1 := h.st.set 5 rfl (A' := ownI 3 1 (.slice none 0 0) ([] : List Int).length (xC [])) (Kept.refl _ w) (World.ownsRow_nil _ _ _ _) (own_nodup (.slice none 0 0)) (fun c hc => by simp [ownI, Value.ownBlock] at hc)
  have s2 := s1.write 0 rfl 17 (.slice none 0 0)
  have e0 : (owL V o).toArray.setIfInBounds 17 (.slice none 0 0) = (owL { V with r := .slice none 0 0 } { o with wrote := [] }).toArray := by
    rw [List.setIfInBounds_toArray]
    congr 1
    exact owL_setLate h.loc 6 _
  rw [e0] at s2
  exact ⟨s2, h.loc, h.sv⟩
/-- What was saved: any of those cells. -/
theorem OwAt.setSaved (h : OwAt b X V o R w) (j : Nat) (hj : j < 11) (v : Value) : OwAt b X { V with sv := V.sv.set j v } o R (w.setCell ⟨X, 18 + j, none⟩ v) := by
  have s1 := h.st.write 0 rfl (18 + j) v
  have e0 : (owL V o).toArray.setIfInBounds (18 + j) v = (owL { V with sv := V.sv.set j v } o).toArray := by
    rw [List.setIfInBounds_toArray]
    congr 1
    have := owL_setLate (V := V) h.loc (7 + j) v
    rw [show 11 + (7 + j) = 18 + j by omega] at this
    rw [this, List.set_append_right _ _ (by simp)]
    unfold owL
    congr 4
    simp
  rw [e0] at s1
  exact ⟨s1, h.loc, by show (V.sv.set j v).length = 11; rw [List.length_set]; exact h.sv⟩
theorem OwAt.saved (h : OwAt b X V o R w) (j : Nat) (hj : j < 11) : ∃ z, w.cell? ⟨X, 18 + j, none⟩ = some z := by
  obtain ⟨z, hz⟩ : ∃ z, V.sv[j]? = some z := ⟨_, List.getElem?_eq_getElem (by rw [h.sv]; exact hj)⟩
  refine ⟨z, ?_⟩
  have := h.late (7 + j) (v := z) (by rw [List.getElem?_append_right (by simp)]; simpa using hz)
  rwa [show 11 + (7 + j) = 18 + j by omega] at this
/-- All that was held is told. -/
theorem OwAt.tellAll (h : OwAt b X V o R w) {g2 cap2 : Nat} {w1 : World} (p1 : w1.ownsRow 0 2 1 (.slice (some ⟨g2, 0, none⟩) (o.told.length + o.held.length) cap2) (o.told.length + o.held.length) (xC o.told ++ xC o.held)) (p2 : w.drew.grownBy w1 V.t.ownBlock) (p3 : V.t.ownBlock = some g2 ∨ g2 = w.heap.size) :
    OwAt b X { V with t := .slice (some ⟨g2, 0, none⟩) (o.told.length + o.held.length) cap2 } { o with told := o.told ++ o.held } R (w1.setCell ⟨X, 11, none⟩ (.slice (some ⟨g2, 0, none⟩) (o.told.length + o.held.length) cap2)) ∧ w1.cell? ⟨X, 11, none⟩ = some V.t ∧ w1.frozen? ⟨X, 11, none⟩ = false := by
  have s1 := h.st.ownGrow 3 rfl p1 ((kept_drew w).mono (fun _ _ f => f.elim) |>.grown p2 (fun k e => .inl e)) (by
    rcases p3 with e | e
    · exact .inl e.symm
    · exact .inr ⟨g2, rfl, by omega⟩)
  have s2 := s1.write 0 rfl 11 (.slice (some ⟨g2, 0, none⟩) (o.told.length + o.held.length) cap2)
  have e0 : (owL V o).toArray.setIfInBounds 11 (.slice (some ⟨g2, 0, none⟩) (o.told.length + o.held.length) cap2) = (owL { V with t := .slice (some ⟨g2, 0, none⟩) (o.told.length + o.held.length) cap2 } { o with told := o.told ++ o.held }).toArray := by
    rw [List.setIfInBounds_toArray]
    congr 1
    exact owL_setLate h.loc 0 _
  have e : ownI 2 1 (.slice (some ⟨g2, 0, none⟩) (o.told.length + o.held.length) cap2) (o.told.length + o.held.length) (xC o.told ++ xC o.held) = ownI 2 1 (.slice (some ⟨g2, 0, none⟩) (o.told.length + o.held.length) cap2) (o.told ++ o.held).length (xC (o.told ++ o.held)) := by
    simp [xC]
  refine ⟨⟨?_, h.loc, h.sv⟩, ?_, s1.frozen 0 rfl 11⟩
  · rw [e0, e] at s2
    exact s2
  · rw [s1.cell 0 rfl 11]
    have := (owL_late (V := V) h.loc 0)
    simpa using this
end
theorem OwAt.cel {b w : World} {X : Nat} {V : OwV} {o : Ow} {R : List It} (h : OwAt b X V o R w) : w.ownsRow 0 2 1 V.c o.cells.length (xC o.cells) := h.st.get 2 rfl
theorem Tryz.infoXi : (Tryz.prog.info? 3).map (fun i => (i.zero, i.size, i.bytes)) = some (some (.int .i64 0), 1, 8) := by kernel_rfl
theorem buildXi (W : World) (x : Int) : (Instr.buildSlice 67 1 #[(0, .int .i64 x)]).run Tryz.prog W = .ok (.slice (some ⟨W.heap.size, 0, none⟩) 1 1) (W.alloc (.cells #[.int .i64 x] 3)) := by kernel_rfl
theorem xC_put (zs : List Int) (k : Nat) (v : Int) : (xC zs).set k (.int .i64 v) = xC (zs.set k v) := by simp [xC, List.map_set]
theorem OwAt.setCel {b w : World} {X : Nat} {V : OwV} {o : Ow} {R : List It} (h : OwAt b X V o R w) {g cap : Nat} (e : V.c = .slice (some ⟨g, 0, none⟩) o.cells.length cap) (k : Nat) (hk : k < o.cells.length) (v : Int) : OwAt b X V { o with cells := o.cells.set k v } R (w.setCell ⟨g, k, none⟩ (.int .i64 v)) := by
  have hi : (boxI X (owL V o).toArray 69 :: (owR V o ++ R))[2]? = some (ownI 2 1 (.slice (some ⟨g, 0, none⟩) o.cells.length cap) o.cells.length (xC o.cells)) := by rw [← e]; rfl
  have s1 := h.st.ownSet 2 hi k (by omega) (.int .i64 v)
  refine ⟨?_, h.loc, h.sv⟩
  rw [← e, xC_put] at s1
  have e2 : owR V { o with cells := o.cells.set k v } = [ownI 2 1 V.s o.stack.length (xC o.stack), ownI 2 1 V.c o.cells.length (xC (o.cells.set k v)), ownI 2 1 V.t o.told.length (xC o.told), ownI 2 1 V.h o.held.length (xC o.held), ownI 3 1 V.r o.wrote.length (xC o.wrote)] := by
    simp only [owR, List.length_set]
  rw [e2]
  exact s1
theorem OwAt.wroteD {b w : World} {X : Nat} {V : OwV} {o : Ow} {R : List It} (h : OwAt b X V o R w) {z : Int} {g2 cap2 : Nat} {w1 : World} {ob : Obj} (p1 : w1.ownsRow 0 3 1 (.slice (some ⟨g2, 0, none⟩) (o.wrote.length + 1) cap2) (o.wrote.length + 1) (xC o.wrote ++ [.int .i64 z])) (p2 : (w.alloc ob).grownBy w1 V.r.ownBlock) (p3 : V.r.ownBlock = some g2 ∨ g2 = w.heap.size + 1) :
    OwAt b X { V with r := .slice (some ⟨g2, 0, none⟩) (o.wrote.length + 1) cap2 } { o with wrote := o.wrote ++ [z] } R (w1.setCell ⟨X, 17, none⟩ (.slice (some ⟨g2, 0, none⟩) (o.wrote.length + 1) cap2)) ∧ w1.cell? ⟨X, 17, none⟩ = some V.r ∧ w1.frozen? ⟨X, 17, none⟩ = false := by
  have s1 := h.st.growAt 5 rfl p1 p2 p3
  have s2 := s1.write 0 rfl 17 (.slice (some ⟨g2, 0, none⟩) (o.wrote.length + 1) cap2)
  have e0 : (owL V o).toArray.setIfInBounds 17 (.slice (some ⟨g2, 0, none⟩) (o.wrote.length + 1) cap2) = (owL { V with r := .slice (some ⟨g2, 0, none⟩) (o.wrote.length + 1) cap2 } { o with wrote := o.wrote ++ [z] }).toArray := by
    rw [List.setIfInBounds_toArray]
    congr 1
    exact owL_setLate h.loc 6 _
  have e : ownI 3 1 (.slice (some ⟨g2, 0, none⟩) (o.wrote.length + 1) cap2) (o.wrote.length + 1) (xC o.wrote ++ [.int .i64 z]) = ownI 3 1 (.slice (some ⟨g2, 0, none⟩) (o.wrote.length + 1) cap2) (o.wrote ++ [z]).length (xC (o.wrote ++ [z])) := by
    simp [xC]
  refine ⟨⟨?_, h.loc, h.sv⟩, ?_, s1.frozen 0 rfl 17⟩
  · rw [e0, e] at s2
    exact s2
  · rw [s1.cell 0 rfl 17]
    have := (owL_late (V := V) h.loc 6)
    simpa using this
theorem mem_take_succ (zs : List Int) (x : Int) (j : Nat) (hj : j < zs.length) : decide (x ∈ zs.take (j + 1)) = (decide (x ∈ zs.take j) || (zs.getD j 0 == x)) := by
  rw [List.take_succ_eq_append_getElem hj]
  simp only [List.mem_append, List.mem_singleton, Bool.decide_or, List.getD_eq_getElem?_getD, List.getElem?_eq_getElem hj, Option.getD_some]
  congr 1
  by_cases h : x = zs[j]
  · simp [h]
  · have h' : ¬ zs[j] = x := fun e => h e.symm
    simp [h, h']
set_option maxRecDepth 100000 in
set_option maxHeartbeats 4000000 in
theorem shared_16 {b w : World} {X : Nat} {V : OwV} {o : Ow} {R : List It} {p : Nat} {a : Int} (h : OwAt b X V o R w) (hp : o.place = p) (hp4 : p ≤ 400) (hcb : o.cells.length ≤ 1000) (hsb : o.stack.length ≤ 64) :
    Calls Tryz.prog 55 #[.pointer (some ⟨X, 0, none⟩), .int .i64 16, .int .i64 a] w fun e w' => e = .returned (.tuple #[]) ∧ ∃ V', OwAt b X V' (o.go ⟨16, a⟩) R w' := by
  obtain ⟨i0, hi0, hz0, hz1, hz2⟩ := info_parts Tryz.infoX
  have HGO : Hid (o.go ⟨16, a⟩ = { o with inside := true, wrote := [], place := o.place + 1 }) := by
    show _ = _
    simp [Ow.go]
  rw [HGO.out]
  have HP := hid hp
  have b1 : w.cell? ⟨X, 1, none⟩ = some (.int .i64 p) := by rw [← hp]; exact h.at 1 rfl
  have b2 : w.cell? ⟨X, 13, none⟩ = some (.bool o.inside) := h.late 2 rfl
  have b3 : w.frozen? ⟨X, 13, none⟩ = false := h.frz 13
  have HS1 := hid (h.setInside true)
  obtain ⟨z0, z1, z2, z3, z4, z5, z6, z7, z8, z9, z10, hsv⟩ : ∃ z0 z1 z2 z3 z4 z5 z6 z7 z8 z9 z10, V.sv = [z0, z1, z2, z3, z4, z5, z6, z7, z8, z9, z10] := by
    have hl := h.sv
    match hv : V.sv, hl with
    | [z0, z1, z2, z3, z4, z5, z6, z7, z8, z9, z10], _ => exact ⟨z0, z1, z2, z3, z4, z5, z6, z7, z8, z9, z10, rfl⟩
  have HSV := hid hsv
  clear h hp HGO hsv
  go_enter Tryz.func55, Tryz.ntmps55
  go_upto_region 4 with fail
  have s1 := HS1.out
  obtain ⟨w3, hw3⟩ : ∃ w3, w3 = w.setCell ⟨X, 13, none⟩ (.bool true) := ⟨_, rfl⟩
  rw [← hw3] at s1 ⊢
  clear hw3 HS1 b1 b2 b3
  obtain ⟨cl, cc, eC, hxc, _⟩ := own_xin s1.cel
  have c1 : w3.cell? ⟨X, 0, none⟩ = some (.slice cl o.cells.length cc) := by rw [← eC]; exact s1.at 0 rfl
  have hq1 := Copied_any cl o.cells.length cc o.cells w3 hxc (by omega)
  have HS3 := hid s1
  have HB : Hid (∀ W, Kept (fun _ => False) w3 W → W.cell? ⟨X, 18, none⟩ = some z0 ∧ W.frozen? ⟨X, 18, none⟩ = false) := fun W k => ⟨by have := (s1.calm k).late 7 (v := z0) (by rw [HSV.out]; rfl); exact this, (s1.calm k).frz 18⟩
  clear s1 eC hxc
  go_upto_region 5 with (go_at_call 16; refine hq1.mono ?_; rintro e w4 ⟨v4, rfl, s4⟩; obtain ⟨g4, c4, rfl⟩ := own_slice (s4.get 0 rfl : w4.ownsRow 0 2 1 v4 o.cells.length (xC o.cells)); obtain ⟨d1, d2⟩ := HB.out w4 s4.same)
  obtain ⟨V5, s5⟩ : ∃ V5, OwAt b X V5 { o with inside := true } R (w4.setCell ⟨X, 18, none⟩ (.slice g4 o.cells.length c4)) := ⟨_, (HS3.out.calm s4.same).setSaved 0 (by omega) _⟩
  clear d1 d2 HB HS3 hq1 c1 s4
  generalize w4.setCell ⟨X, 18, none⟩ (.slice g4 o.cells.length c4) = w5 at *
  have f1 : w5.cell? ⟨X, 1, none⟩ = some (.int .i64 p) := by rw [← HP.out]; exact s5.at 1 rfl
  obtain ⟨y1, f2⟩ := s5.saved 1 (by omega)
  have f3 : w5.frozen? ⟨X, 19, none⟩ = false := s5.frz 19
  have HS5 := hid s5
  clear s5
  go_upto_region 6 with fail
  obtain ⟨V6, s6⟩ : ∃ V6, OwAt b X V6 { o with inside := true } R (w5.setCell ⟨X, 19, none⟩ (.int .i64 p)) := ⟨_, HS5.out.setSaved 1 (by omega) _⟩
  clear f1 f2 f3 HS5
  generalize w5.setCell ⟨X, 19, none⟩ (.int .i64 p) = w6 at *
  obtain ⟨sl, scp, eS, hxs, _⟩ := own_xin s6.stk
  have c2 : w6.cell? ⟨X, 2, none⟩ = some (.slice sl o.stack.length scp) := by rw [← eS]; exact s6.at 2 rfl
  have hq2 := Copied_any sl o.stack.length scp o.stack w6 hxs (by omega)
  have HS6 := hid s6
  have HB : Hid (∀ W, Kept (fun _ => False) w6 W → (∃ z, W.cell? ⟨X, 20, none⟩ = some z) ∧ W.frozen? ⟨X, 20, none⟩ = false) := fun W k => ⟨(s6.calm k).saved 2 (by omega), (s6.calm k).frz 20⟩
  clear s6 eS hxs
  go_upto_region 7 with (go_at_call 16; refine hq2.mono ?_; rintro e w7 ⟨v7, rfl, s7⟩; obtain ⟨g7, c7, rfl⟩ := own_slice (s7.get 0 rfl : w7.ownsRow 0 2 1 v7 o.stack.length (xC o.stack)); obtain ⟨⟨y2, d1⟩, d2⟩ := HB.out w7 s7.same)
  obtain ⟨V8, s8⟩ : ∃ V8, OwAt b X V8 { o with inside := true } R (w7.setCell ⟨X, 20, none⟩ (.slice g7 o.stack.length c7)) := ⟨_, (HS6.out.calm s7.same).setSaved 2 (by omega) _⟩
  clear d1 d2 HB HS6 hq2 c2 s7
  generalize w7.setCell ⟨X, 20, none⟩ (.slice g7 o.stack.length c7) = w8 at *
  have l0 := s8.lcl 0 (by omega)
  have l1 := s8.lcl 1 (by omega)
  have l2 := s8.lcl 2 (by omega)
  have l3 := s8.lcl 3 (by omega)
  have l4 := s8.lcl 4 (by omega)
  have l5 := s8.lcl 5 (by omega)
  have l6 := s8.lcl 6 (by omega)
  have l7 := s8.lcl 7 (by omega)
  simp only [Nat.reduceAdd] at l0 l1 l2 l3 l4 l5 l6 l7
  generalize o.loc.getD 0 0 = k0 at l0
  generalize o.loc.getD 1 0 = k1 at l1
  generalize o.loc.getD 2 0 = k2 at l2
  generalize o.loc.getD 3 0 = k3 at l3
  generalize o.loc.getD 4 0 = k4 at l4
  generalize o.loc.getD 5 0 = k5 at l5
  generalize o.loc.getD 6 0 = k6 at l6
  generalize o.loc.getD 7 0 = k7 at l7
  have q0 := s8
  have HS8 := hid s8
  clear s8
  obtain ⟨n0, u0⟩ : ∃ z, World.cell? w8 ⟨X, 21, none⟩ = some z := q0.saved 3 (by omega)
  have x0 : World.frozen? w8 ⟨X, 21, none⟩ = false := q0.frz 21
  obtain ⟨A0, q1⟩ : ∃ A, OwAt b X A { o with inside := true } R (w8.setCell ⟨X, 21, none⟩ (.int .i64 k0)) := ⟨_, q0.setSaved 3 (by omega) _⟩
  obtain ⟨n1, u1⟩ : ∃ z, World.cell? (w8.setCell ⟨X, 21, none⟩ (.int .i64 k0)) ⟨X, 22, none⟩ = some z := q1.saved 4 (by omega)
  have x1 : World.frozen? (w8.setCell ⟨X, 21, none⟩ (.int .i64 k0)) ⟨X, 22, none⟩ = false := q1.frz 22
  obtain ⟨A1, q2⟩ : ∃ A, OwAt b X A { o with inside := true } R ((w8.setCell ⟨X, 21, none⟩ (.int .i64 k0)).setCell ⟨X, 22, none⟩ (.int .i64 k1)) := ⟨_, q1.setSaved 4 (by omega) _⟩
  obtain ⟨n2, u2⟩ : ∃ z, World.cell? ((w8.setCell ⟨X, 21, none⟩ (.int .i64 k0)).setCell ⟨X, 22, none⟩ (.int .i64 k1)) ⟨X, 23, none⟩ = some z := q2.saved 5 (by omega)
  have x2 : World.frozen? ((w8.setCell ⟨X, 21, none⟩ (.int .i64 k0)).setCell ⟨X, 22, none⟩ (.int .i64 k1)) ⟨X, 23, none⟩ = false := q2.frz 23
  obtain ⟨A2, q3⟩ : ∃ A, OwAt b X A { o with inside := true } R (((w8.setCell ⟨X, 21, none⟩ (.int .i64 k0)).setCell ⟨X, 22, none⟩ (.int .i64 k1)).setCell ⟨X, 23, none⟩ (.int .i64 k2)) := ⟨_, q2.setSaved 5 (by omega) _⟩
  obtain ⟨n3, u3⟩ : ∃ z, World.cell? (((w8.setCell ⟨X, 21, none⟩ (.int .i64 k0)).setCell ⟨X, 22, none⟩ (.int .i64 k1)).setCell ⟨X, 23, none⟩ (.int .i64 k2)) ⟨X, 24, none⟩ = some z := q3.saved 6 (by omega)
  have x3 : World.frozen? (((w8.setCell ⟨X, 21, none⟩ (.int .i64 k0)).setCell ⟨X, 22, none⟩ (.int .i64 k1)).setCell ⟨X, 23, none⟩ (.int .i64 k2)) ⟨X, 24, none⟩ = false := q3.frz 24
  obtain ⟨A3, q4⟩ : ∃ A, OwAt b X A { o with inside := true } R ((((w8.setCell ⟨X, 21, none⟩ (.int .i64 k0)).setCell ⟨X, 22, none⟩ (.int .i64 k1)).setCell ⟨X, 23, none⟩ (.int .i64 k2)).setCell ⟨X, 24, none⟩ (.int .i64 k3)) := ⟨_, q3.setSaved 6 (by omega) _⟩
  obtain ⟨n4, u4⟩ : ∃ z, World.cell? ((((w8.setCell ⟨X, 21, none⟩ (.int .i64 k0)).setCell ⟨X, 22, none⟩ (.int .i64 k1)).setCell ⟨X, 23, none⟩ (.int .i64 k2)).setCell ⟨X, 24, none⟩ (.int .i64 k3)) ⟨X, 25, none⟩ = some z := q4.saved 7 (by omega)
  have x4 : World.frozen? ((((w8.setCell ⟨X, 21, none⟩ (.int .i64 k0)).setCell ⟨X, 22, none⟩ (.int .i64 k1)).setCell ⟨X, 23, none⟩ (.int .i64 k2)).setCell ⟨X, 24, none⟩ (.int .i64 k3)) ⟨X, 25, none⟩ = false := q4.frz 25
  obtain ⟨A4, q5⟩ : ∃ A, OwAt b X A { o with inside := true } R (((((w8.setCell ⟨X, 21, none⟩ (.int .i64 k0)).setCell ⟨X, 22, none⟩ (.int .i64 k1)).setCell ⟨X, 23, none⟩ (.int .i64 k2)).setCell ⟨X, 24, none⟩ (.int .i64 k3)).setCell ⟨X, 25, none⟩ (.int .i64 k4)) := ⟨_, q4.setSaved 7 (by omega) _⟩
  obtain ⟨n5, u5⟩ : ∃ z, World.cell? (((((w8.setCell ⟨X, 21, none⟩ (.int .i64 k0)).setCell ⟨X, 22, none⟩ (.int .i64 k1)).setCell ⟨X, 23, none⟩ (.int .i64 k2)).setCell ⟨X, 24, none⟩ (.int .i64 k3)).setCell ⟨X, 25, none⟩ (.int .i64 k4)) ⟨X, 26, none⟩ = some z := q5.saved 8 (by omega)
  have x5 : World.frozen? (((((w8.setCell ⟨X, 21, none⟩ (.int .i64 k0)).setCell ⟨X, 22, none⟩ (.int .i64 k1)).setCell ⟨X, 23, none⟩ (.int .i64 k2)).setCell ⟨X, 24, none⟩ (.int .i64 k3)).setCell ⟨X, 25, none⟩ (.int .i64 k4)) ⟨X, 26, none⟩ = false := q5.frz 26
  obtain ⟨A5, q6⟩ : ∃ A, OwAt b X A { o with inside := true } R ((((((w8.setCell ⟨X, 21, none⟩ (.int .i64 k0)).setCell ⟨X, 22, none⟩ (.int .i64 k1)).setCell ⟨X, 23, none⟩ (.int .i64 k2)).setCell ⟨X, 24, none⟩ (.int .i64 k3)).setCell ⟨X, 25, none⟩ (.int .i64 k4)).setCell ⟨X, 26, none⟩ (.int .i64 k5)) := ⟨_, q5.setSaved 8 (by omega) _⟩
  obtain ⟨n6, u6⟩ : ∃ z, World.cell? ((((((w8.setCell ⟨X, 21, none⟩ (.int .i64 k0)).setCell ⟨X, 22, none⟩ (.int .i64 k1)).setCell ⟨X, 23, none⟩ (.int .i64 k2)).setCell ⟨X, 24, none⟩ (.int .i64 k3)).setCell ⟨X, 25, none⟩ (.int .i64 k4)).setCell ⟨X, 26, none⟩ (.int .i64 k5)) ⟨X, 27, none⟩ = some z := q6.saved 9 (by omega)
  have x6 : World.frozen? ((((((w8.setCell ⟨X, 21, none⟩ (.int .i64 k0)).setCell ⟨X, 22, none⟩ (.int .i64 k1)).setCell ⟨X, 23, none⟩ (.int .i64 k2)).setCell ⟨X, 24, none⟩ (.int .i64 k3)).setCell ⟨X, 25, none⟩ (.int .i64 k4)).setCell ⟨X, 26, none⟩ (.int .i64 k5)) ⟨X, 27, none⟩ = false := q6.frz 27
  obtain ⟨A6, q7⟩ : ∃ A, OwAt b X A { o with inside := true } R (((((((w8.setCell ⟨X, 21, none⟩ (.int .i64 k0)).setCell ⟨X, 22, none⟩ (.int .i64 k1)).setCell ⟨X, 23, none⟩ (.int .i64 k2)).setCell ⟨X, 24, none⟩ (.int .i64 k3)).setCell ⟨X, 25, none⟩ (.int .i64 k4)).setCell ⟨X, 26, none⟩ (.int .i64 k5)).setCell ⟨X, 27, none⟩ (.int .i64 k6)) := ⟨_, q6.setSaved 9 (by omega) _⟩
  obtain ⟨n7, u7⟩ : ∃ z, World.cell? (((((((w8.setCell ⟨X, 21, none⟩ (.int .i64 k0)).setCell ⟨X, 22, none⟩ (.int .i64 k1)).setCell ⟨X, 23, none⟩ (.int .i64 k2)).setCell ⟨X, 24, none⟩ (.int .i64 k3)).setCell ⟨X, 25, none⟩ (.int .i64 k4)).setCell ⟨X, 26, none⟩ (.int .i64 k5)).setCell ⟨X, 27, none⟩ (.int .i64 k6)) ⟨X, 28, none⟩ = some z := q7.saved 10 (by omega)
  have x7 : World.frozen? (((((((w8.setCell ⟨X, 21, none⟩ (.int .i64 k0)).setCell ⟨X, 22, none⟩ (.int .i64 k1)).setCell ⟨X, 23, none⟩ (.int .i64 k2)).setCell ⟨X, 24, none⟩ (.int .i64 k3)).setCell ⟨X, 25, none⟩ (.int .i64 k4)).setCell ⟨X, 26, none⟩ (.int .i64 k5)).setCell ⟨X, 27, none⟩ (.int .i64 k6)) ⟨X, 28, none⟩ = false := q7.frz 28
  obtain ⟨A7, q8⟩ : ∃ A, OwAt b X A { o with inside := true } R ((((((((w8.setCell ⟨X, 21, none⟩ (.int .i64 k0)).setCell ⟨X, 22, none⟩ (.int .i64 k1)).setCell ⟨X, 23, none⟩ (.int .i64 k2)).setCell ⟨X, 24, none⟩ (.int .i64 k3)).setCell ⟨X, 25, none⟩ (.int .i64 k4)).setCell ⟨X, 26, none⟩ (.int .i64 k5)).setCell ⟨X, 27, none⟩ (.int .i64 k6)).setCell ⟨X, 28, none⟩ (.int .i64 k7)) := ⟨_, q7.setSaved 10 (by omega) _⟩
  have HS9 := hid q8
  clear q0 q1 q2 q3 q4 q5 q6 q7 q8 HS8
  go_upto_region 8 with fail
  have s9 := HS9.out
  clear HS9 u0 x0 l0 u1 x1 l1 u2 x2 l2 u3 x3 l3 u4 x4 l4 u5 x5 l5 u6 x6 l6 u7 x7 l7
  generalize ((((((((w8.setCell ⟨X, 21, none⟩ (.int .i64 k0)).setCell ⟨X, 22, none⟩ (.int .i64 k1)).setCell ⟨X, 23, none⟩ (.int .i64 k2)).setCell ⟨X, 24, none⟩ (.int .i64 k3)).setCell ⟨X, 25, none⟩ (.int .i64 k4)).setCell ⟨X, 26, none⟩ (.int .i64 k5)).setCell ⟨X, 27, none⟩ (.int .i64 k6)).setCell ⟨X, 28, none⟩ (.int .i64 k7)) = w9 at *
  have f1 : w9.cell? ⟨X, 17, none⟩ = some _ := s9.late 6 rfl
  have f2 : w9.frozen? ⟨X, 17, none⟩ = false := s9.frz 17
  have s10 := s9.dropWrote
  have f3 : (w9.setCell ⟨X, 17, none⟩ (.slice none 0 0)).cell? ⟨X, 1, none⟩ = some (.int .i64 p) := by rw [← HP.out]; exact s10.at 1 rfl
  have f4 : (w9.setCell ⟨X, 17, none⟩ (.slice none 0 0)).frozen? ⟨X, 1, none⟩ = false := s10.frz 1
  have H11 := hid (s10.setPlace ((p : Int) + 1))
  clear s9 s10
  go_wp2
  go_end0
  exact ⟨rfl, _, by rw [HP.out]; exact H11.out⟩
set_option maxRecDepth 100000 in
set_option maxHeartbeats 4000000 in
theorem shared_17 {b w : World} {X : Nat} {V : OwV} {o : Ow} {R : List It} {p : Nat} {a : Int} (h : OwAt b X V o R w) (hp : o.place = p) (hp4 : p ≤ 400) (hc : 0 ≤ o.top 0 ∧ o.top 0 < o.cells.length) (hs1 : 1 ≤ o.stack.length) (hd64 : o.stack.length ≤ 64) :
    Calls Tryz.prog 55 #[.pointer (some ⟨X, 0, none⟩), .int .i64 17, .int .i64 a] w fun e w' => e = .returned (.tuple #[]) ∧ ∃ V', OwAt b X V' (o.go ⟨17, a⟩) R w' := by
  obtain ⟨i0, hi0, hz0, hz1, hz2⟩ := info_parts Tryz.infoX
  obtain ⟨sa, sc, eS, hmx⟩ := h.stkForm
  have HGO : Hid (o.go ⟨17, a⟩ = { o with stack := o.less 1 ++ [o.cells.getD (o.top 0).toNat 0], place := o.place + 1 }) := by
    show _ = _
    simp [Ow.go]
  rw [HGO.out]
  have HP := hid hp
  have b1 : w.cell? ⟨X, 1, none⟩ = some (.int .i64 p) := by rw [← hp]; exact h.at 1 rfl
  have hT0 : Calls Tryz.prog 57 #[.pointer (some ⟨X, 0, none⟩), .int .i64 0] w _ := top_any h 0 (by omega)
  obtain ⟨k, hk⟩ : ∃ k : Nat, o.top 0 = (k : Int) := ⟨(o.top 0).toNat, by omega⟩
  rw [hk] at hT0
  have hkc : k < o.cells.length := by omega
  have HK := hid hk
  obtain ⟨cl, cc, eC, hxc, _⟩ := own_xin h.cel
  obtain ⟨gc, oc, rfl⟩ := hxc.addr (by omega)
  have HEC := hid eC
  have b2 : w.drew.cell? ⟨X, 0, none⟩ = some (.slice (some ⟨gc, oc, none⟩) o.cells.length cc) := by rw [← eC]; exact h.drew.at 0 rfl
  have hDr : Calls Tryz.prog 56 #[.pointer (some ⟨X, 0, none⟩), .int .i64 1] w.drew _ := drop_any h.drew 1 (by omega) (by omega)
  have q0 : (0 : Int) ≤ (k : Int) := by omega
  have q1 : (k : Int) < (o.cells.length : Int) := by omega
  have t0 : decide ((k : Int) < 0) = false := decide_eq_false (by omega)
  have t1 : decide ((o.cells.length : Int) ≤ (k : Int)) = false := decide_eq_false (by omega)
  have t2 : decide (o.cells.length ≤ k) = false := decide_eq_false (by omega)
  have hcm : o.cells.length ≤ 9223372036854775807 := by
    rcases h.cel.2 with ⟨_, hn⟩ | ⟨g, cap, cur, _, _, _, hc, hm, _⟩
    · omega
    · unfold maxLen at hm; omega
  have hl64 : o.stack.length ≤ 64 := hd64
  clear h hp hk hc eC hxc eS hd64 HGO
  go_enter Tryz.func55, Tryz.ntmps55
  go_upto_region 14 with (first | (go_at_call 57; refine hT0.mono ?_; rintro e wt ⟨rfl, rfl⟩) | (go_at_call 56; refine hDr.mono ?_; rintro e w5 ⟨rfl, s5, hs5⟩))
  obtain ⟨o5, ho5⟩ : ∃ o5 : Ow, o5 = { o with stack := o.less 1 } := ⟨_, rfl⟩
  obtain ⟨V5, hV5⟩ : ∃ V5 : OwV, V5 = { V with s := s5 } := ⟨_, rfl⟩
  rw [← ho5, ← hV5] at hs5
  have HO5 := hid ho5
  have HP5 : Hid (o5.place = p) := by rw [ho5]; exact HP.out
  have hl5 : o5.stack.length ≤ 64 := by rw [ho5]; show (o.less 1).length ≤ 64; unfold Ow.less; rw [List.length_take]; omega
  obtain ⟨sa5, sc5, eS5, hmx5⟩ := hs5.stkForm
  have HES5 := hid eS5
  have eC5 : V5.c = .slice (some ⟨gc, oc, none⟩) o.cells.length cc := by rw [hV5]; exact HEC.out
  have hx5 : XIn w5 (some ⟨gc, oc, none⟩) o.cells.length o.cells := by
    have h9 : w5.ownsRow 0 2 1 V5.c o.cells.length (xC o.cells) := by have := hs5.cel; rw [ho5] at this; exact this
    obtain ⟨la', lc', e, hx, _⟩ := own_xin h9
    rw [eC5] at e
    simp only [Value.slice.injEq] at e
    obtain ⟨rfl, _, _⟩ := e
    exact hx
  generalize hvl : o.cells.getD k 0 = vl at *
  have HVL := hid hvl
  have r1 : w5.cell? ⟨gc, oc + k, none⟩ = some (.int .i64 vl) := by rw [← hvl]; exact hx5.cell hkc
  have r1' : w5.drew.cell? ⟨gc, oc + k, none⟩ = some (.int .i64 vl) := by rw [← hvl]; exact (hx5.kept (kept_drew w5)).cell hkc
  have u1 : w5.cell? ⟨X, 0, none⟩ = some (.slice (some ⟨gc, oc, none⟩) o.cells.length cc) := by rw [← eC5]; exact hs5.at 0 rfl
  have u1' : w5.drew.cell? ⟨X, 0, none⟩ = some (.slice (some ⟨gc, oc, none⟩) o.cells.length cc) := by rw [← eC5]; exact hs5.drew.at 0 rfl
  have uA : ∀ c t, (w5.alloc (.cells c t)).cell? ⟨X, 0, none⟩ = some (.slice (some ⟨gc, oc, none⟩) o.cells.length cc) := fun c t => by rw [World.cell?_of_block (Below.heap_alloc w5 _ X (World.block_lt_of_cell? w5 _ u1))]; exact u1
  have HS3 := hid hs5
  clear hs5 eS5 ho5 hV5 hDr hT0 b1 b2 hx5 eC5 hvl
  generalize w5 = w3 at *
  have c0 : w3.cell? ⟨X, 1, none⟩ = some (.int .i64 p) := by rw [← HP5.out]; exact HS3.out.at 1 rfl
  have c1 : w3.cell? ⟨X, 2, none⟩ = some (.slice sa5 o5.stack.length sc5) := by rw [← HES5.out]; exact HS3.out.at 2 rfl
  have c1' : w3.drew.cell? ⟨X, 2, none⟩ = some (.slice sa5 o5.stack.length sc5) := by rw [← HES5.out]; exact HS3.out.drew.at 2 rfl
  have c1'' : w3.drew.drew.cell? ⟨X, 2, none⟩ = some (.slice sa5 o5.stack.length sc5) := by rw [← HES5.out]; exact HS3.out.drew.drew.at 2 rfl
  have c2 : w3.frozen? ⟨X, 2, none⟩ = false := HS3.out.frz 2
  have hbs := fun W => buildX1 W vl
  have cA : ∀ c t, (w3.alloc (.cells c t)).cell? ⟨X, 2, none⟩ = some (.slice sa5 o5.stack.length sc5) := fun c t => by rw [World.cell?_of_block (Below.heap_alloc w3 _ X (World.block_lt_of_cell? w3 _ c1))]; exact c1
  have fA : ∀ c t, (w3.alloc (.cells c t)).frozen? ⟨X, 2, none⟩ = false := fun c t => by rw [frozen?_alloc_cells]; exact c2
  have hown : w3.ownsRow 0 2 1 (.slice sa5 o5.stack.length sc5) o5.stack.length (xC o5.stack) := by rw [← HES5.out]; exact HS3.out.stk
  have HV : Hid (∀ g2 cap2 w1, w1.ownsRow 0 2 1 (.slice (some ⟨g2, 0, none⟩) (o5.stack.length + 1) cap2) (o5.stack.length + 1) (xC o5.stack ++ [.int .i64 vl]) → ((w3.alloc (.cells #[.int .i64 vl] 2)).drew).grownBy w1 (Value.ownBlock (.slice sa5 o5.stack.length sc5)) → (Value.ownBlock (.slice sa5 o5.stack.length sc5) = some g2 ∨ g2 = w3.heap.size + 1) →
      OwAt b X { V5 with s := .slice (some ⟨g2, 0, none⟩) (o5.stack.length + 1) cap2 } { o5 with stack := o5.stack ++ [vl] } R (w1.setCell ⟨X, 2, none⟩ (.slice (some ⟨g2, 0, none⟩) (o5.stack.length + 1) cap2)) ∧ w1.cell? ⟨X, 2, none⟩ = some (.slice sa5 o5.stack.length sc5) ∧ w1.frozen? ⟨X, 2, none⟩ = false) := by
    intro g2 cap2 w1 p1 p2 p3
    have hh := HS3.out.pushD (ob := .cells #[.int .i64 vl] 2) p1 (by rw [HES5.out]; exact p2) (by rw [HES5.out]; exact p3)
    rw [HES5.out] at hh
    exact hh
  clear HS3
  generalize hST : o5.stack.length = st at *
  have HST := hid hST
  clear hST
  generalize hXS : xC o5.stack = XS at *
  clear hXS
  go_upto_region 14 with fail
  go_region_law
    (first
      | (refine step_append_lies _ (by rfl) _ _ _ (by rfl) 0 2 i0 _ 1 8 Tryz.underlying24 hi0 hz0 hz1 hz2 rfl (by omega) (.slice sa5 st sc5) st XS (by rfl) ((hown.alloc _).drew)
            ⟨w3.heap.size, 0, none⟩ 1 1 [.int .i64 vl] (by rfl) (by rfl) (World.news_of_block (cs := #[.int .i64 vl]) (t := 2) (fr := (0, 0)) (heap_alloc_new w3 _)) (by simp [Value.oneCell'])
            (by omega) (by unfold maxLen; omega) (by omega) (Nat.zero_le _) (w3.heap.size + 1) (by simp) ?_; intro g2 cap2 w1 hown1 hgrow hat hlt
         obtain ⟨s8, e4, ef4⟩ := HV.out g2 cap2 w1 hown1 hgrow hat
         have H8 := hid s8
         clear HV s8 hown1 hgrow hat hlt)
      | (go_simp; fail))
  all_goals
    have s9 := H8.out
    obtain ⟨w9, hw9⟩ : ∃ w9, w9 = w1.setCell ⟨X, 2, none⟩ (.slice (some ⟨g2, 0, none⟩) (st + 1) cap2) := ⟨_, rfl⟩
    rw [← hw9] at s9 ⊢
    have c9 : w9.cell? ⟨X, 1, none⟩ = some (.int .i64 p) := by rw [← HP5.out]; exact s9.at 1 rfl
    have f9 : w9.frozen? ⟨X, 1, none⟩ = false := s9.frz 1
    have H9 : Hid (OwAt b X { V5 with s := .slice (some ⟨g2, 0, none⟩) (st + 1) cap2 } { o5 with stack := o5.stack ++ [vl], place := o5.place + 1 } R (w9.setCell ⟨X, 1, none⟩ (.int .i64 ((p : Int) + 1)))) := by
      have := (s9.setPlace ((p : Int) + 1))
      rw [show (p : Int) + 1 = o5.place + 1 by rw [HP5.out]] at this ⊢
      exact this
    clear s9 H8 hw9 c0 c1 c1' c2 cA fA e4 ef4 hown hbs
    go_wp2
    go_end0
    exact ⟨rfl, _, by rw [HO5.out] at H9; rw [HK.out, Int.toNat_natCast, HVL.out]; exact H9.out⟩
set_option maxRecDepth 100000 in
set_option maxHeartbeats 4000000 in
theorem shared_18 {b w : World} {X : Nat} {V : OwV} {o : Ow} {R : List It} {p : Nat} {a : Int} (h : OwAt b X V o R w) (hp : o.place = p) (hp4 : p ≤ 400) (hc : 0 ≤ o.top 1 ∧ o.top 1 < o.cells.length) (hs1 : 2 ≤ o.stack.length) (hd64 : o.stack.length ≤ 64) (hw : o.top 1 ∈ o.wrote ∨ o.wrote.length < 16) (hw6 : o.wrote.length ≤ 16) :
    Calls Tryz.prog 55 #[.pointer (some ⟨X, 0, none⟩), .int .i64 18, .int .i64 a] w fun e w' => e = .returned (.tuple #[]) ∧ ∃ V', OwAt b X V' (o.go ⟨18, a⟩) R w' := by
  obtain ⟨i0, hi0, hz0, hz1, hz2⟩ := info_parts Tryz.infoX
  have HGO : Hid (o.go ⟨18, a⟩ = { o with wrote := if o.top 1 ∈ o.wrote then o.wrote else o.wrote ++ [o.top 1], cells := o.cells.set (o.top 1).toNat (o.top 0), stack := o.less 2, place := o.place + 1 }) := by
    show _ = _
    simp [Ow.go]
  rw [HGO.out]
  obtain ⟨ii, hii, hy0, hy1, hy2⟩ := info_parts Tryz.infoXi
  have HP := hid hp
  have b1 : w.cell? ⟨X, 1, none⟩ = some (.int .i64 p) := by rw [← hp]; exact h.at 1 rfl
  have hT1 : Calls Tryz.prog 57 #[.pointer (some ⟨X, 0, none⟩), .int .i64 1] w _ := top_any h 1 (by omega)
  obtain ⟨k, hk⟩ : ∃ k : Nat, o.top 1 = (k : Int) := ⟨(o.top 1).toNat, by omega⟩
  rw [hk] at hT1 hw ⊢
  rw [Int.toNat_natCast]
  have hkc : k < o.cells.length := by omega
  have HK := hid hk
  obtain ⟨gc, cc, eC⟩ : ∃ gc cc, V.c = .slice (some ⟨gc, 0, none⟩) o.cells.length cc := by
    rcases h.cel.2 with ⟨_, hn⟩ | ⟨g, cap, cur, e, _⟩
    · omega
    · exact ⟨g, cap, e⟩
  have HEC := hid eC
  have b2 : w.drew.cell? ⟨X, 0, none⟩ = some (.slice (some ⟨gc, 0, none⟩) o.cells.length cc) := by rw [← eC]; exact h.drew.at 0 rfl
  have t0 : decide ((k : Int) < 0) = false := decide_eq_false (by omega)
  have t1 : decide ((o.cells.length : Int) ≤ (k : Int)) = false := decide_eq_false (by omega)
  have t2 : decide (o.cells.length ≤ k) = false := decide_eq_false (by omega)
  obtain ⟨ra, rc, eR, _⟩ := own_xin (h.st.get 5 rfl : w.ownsRow 0 3 1 V.r o.wrote.length (xC o.wrote))
  have HER := hid eR
  have HF : Hid (∀ W, OwAt b X V o R W → W.cell? ⟨X, 17, none⟩ = some (.slice ra o.wrote.length rc) ∧ XIn W ra o.wrote.length o.wrote) := fun W hW => by
    refine ⟨by rw [← eR]; exact hW.late 6 rfl, ?_⟩
    obtain ⟨la', lc', e, hx, _⟩ := own_xin (hW.st.get 5 rfl : W.ownsRow 0 3 1 V.r o.wrote.length (xC o.wrote))
    rw [eR] at e
    simp only [Value.slice.injEq] at e
    obtain ⟨rfl, _, _⟩ := e
    exact hx
  have hcm : o.cells.length ≤ 9223372036854775807 := by
    rcases h.cel.2 with ⟨_, hn⟩ | ⟨g, cap, cur, _, _, _, hc, hm, _⟩
    · omega
    · unfold maxLen at hm; omega
  have HS1 := hid h.drew
  have hl64 : o.stack.length ≤ 64 := hd64
  have HHW := hid hw
  clear h hp hk hc eC hd64 HGO eR hw
  go_enter Tryz.func55, Tryz.ntmps55
  go_upto_region 19 with (go_at_call 57; refine hT1.mono ?_; rintro e wt ⟨rfl, rfl⟩)
  clear hT1 b1 b2 t0 t1 t2
  generalize w.drew = w1 at *
  go_upto_region 21 with fail
  go_loopw [9, 10] (fun t i wr => ∃ j : Nat, i = .int .i64 j ∧ j ≤ o.wrote.length ∧ t = .bool (decide ((k : Int) ∈ o.wrote.take j)) ∧ OwAt b X V o R wr) (fun _ i _ => o.wrote.length - (intOf i).toNat)
  case atStart => exact ⟨0, rfl, Nat.zero_le _, by simp, HS1.out⟩
  case round =>
    obtain ⟨j, rfl, hj, rfl, hs⟩ := hrel
    by_cases hlt : j < o.wrote.length
    · have HX := HF.out wr hs
      have c1 := HX.1
      have c1' := (HF.out wr.drew hs.drew).1
      obtain ⟨gr, or, era⟩ := HX.2.addr (by omega)
      subst era
      have c2 := HX.2.cell hlt
      have c2' := (HF.out wr.drew hs.drew).2.cell hlt
      have HT := hid (mem_take_succ o.wrote k j hlt)
      generalize o.wrote.getD j 0 = z at *
      have h0 : (0 : Int) ≤ (j : Int) := Int.natCast_nonneg _
      have h1 : (j : Int) < (o.wrote.length : Int) := by omega
      have HS := hid hs
      clear hs HX
      generalize decide ((k : Int) ∈ o.wrote.take j) = t at *
      generalize hze : (z == (k : Int)) = ze at *
      cases t
      · go_wp2
        go_roundw
        case rel => exact ⟨j + 1, by simp, by omega, by rw [HT.out]; simp, by first | exact HS.out | exact HS.out.drew⟩
        case measure => simp [intOf]; omega
      · go_wp2
        go_roundw
        case rel => exact ⟨j + 1, by simp, by omega, by rw [HT.out]; simp, by first | exact HS.out | exact HS.out.drew⟩
        case measure => simp [intOf]; omega
    · have h1 : ¬ (j : Int) < (o.wrote.length : Int) := by omega
      have eT : o.wrote.take j = o.wrote := List.take_of_length_le (by omega)
      rw [eT]
      have c1 := (HF.out wr hs).1
      have c1' := (HF.out wr.drew hs.drew).1
      have HS := hid hs
      clear hs eT
      by_cases hm : (k : Int) ∈ o.wrote
      · have HM := hid hm
        rw [decide_eq_true hm]
        clear hm
        go_upto_region 28 with fail
        have s1 := HS.out.drew
        have d0 : wr.drew.cell? ⟨X, 0, none⟩ = some (.slice (some ⟨gc, 0, none⟩) o.cells.length cc) := by rw [← HEC.out]; exact s1.at 0 rfl
        have d0' : wr.drew.drew.cell? ⟨X, 0, none⟩ = some (.slice (some ⟨gc, 0, none⟩) o.cells.length cc) := by rw [← HEC.out]; exact s1.drew.at 0 rfl
        have hT0 : Calls Tryz.prog 57 #[.pointer (some ⟨X, 0, none⟩), .int .i64 0] wr.drew fun e w' => e = .returned (.int .i64 (o.top 0)) ∧ w' = wr.drew.drew := top_any s1 0 (show 0 < o.stack.length by omega)
        generalize hv : o.top 0 = v at *
        have HV := hid hv
        have q0 : (0 : Int) ≤ (k : Int) := by omega
        have q1 : (k : Int) < (o.cells.length : Int) := by omega
        have h9 : wr.drew.drew.ownsRow 0 2 1 (.slice (some ⟨gc, 0, none⟩) o.cells.length cc) o.cells.length (xC o.cells) := by have := s1.drew.cel; rw [show (V).c = _ from HEC.out] at this; exact this
        have e1 : wr.drew.drew.cell? ⟨gc, k, none⟩ = some (.int .i64 (o.cells.getD k 0)) := by
          rw [h9.cellAt k (by omega)]
          exact xC_at o.cells k hkc
        have e2 : wr.drew.drew.frozen? ⟨gc, k, none⟩ = false := h9.frozenAt k
        have s2 := s1.drew.setCel (show (V).c = _ from HEC.out) k hkc v
        have hDr : Calls Tryz.prog 56 #[.pointer (some ⟨X, 0, none⟩), .int .i64 2] _ _ := drop_any s2 2 (show 2 ≤ o.stack.length by omega) (show 0 < o.stack.length by omega)
        clear s1 s2 h9 hv HS HF HS1 HHW
        go_region_law ((go_simp; go_at_call 57; refine hT0.mono ?_; rintro e wt ⟨rfl, rfl⟩))
        all_goals
          go_upto_region 44 with (go_at_call 56; refine hDr.mono ?_; rintro e w5 ⟨rfl, s5, hs5⟩)
          have g1 : w5.cell? ⟨X, 1, none⟩ = some (.int .i64 p) := by rw [← HP.out]; exact hs5.at 1 rfl
          have g2 : w5.frozen? ⟨X, 1, none⟩ = false := hs5.frz 1
          have H11 := hid (hs5.setPlace ((p : Int) + 1))
          clear hs5 hDr hT0 d0 d0' e1 e2
          go_wp2
          go_end0
          exact ⟨rfl, _, by (try rw [if_pos HM.out]); rw [HP.out, HV.out]; exact H11.out⟩
      · have hwl : o.wrote.length < 16 := by
          rcases HHW.out with e | e
          · exact absurd e hm
          · exact e
        have HM := hid hm
        rw [decide_eq_false hm]
        have u16 : ((o.wrote.length : Int) == 16) = false := by simp; omega
        have u16' : (o.wrote.length == 16) = false := by simp; omega
        clear hm
        have s3 := HS.out
        have f1 : wr.frozen? ⟨X, 17, none⟩ = false := s3.frz 17
        have hbs := fun W => buildXi W (k : Int)
        have cA : ∀ c t, (wr.alloc (.cells c t)).cell? ⟨X, 17, none⟩ = some (.slice ra o.wrote.length rc) := fun c t => by rw [World.cell?_of_block (Below.heap_alloc wr _ X (World.block_lt_of_cell? wr _ c1))]; exact c1
        have fA : ∀ c t, (wr.alloc (.cells c t)).frozen? ⟨X, 17, none⟩ = false := fun c t => by rw [frozen?_alloc_cells]; exact f1
        have hown : wr.ownsRow 0 3 1 (.slice ra o.wrote.length rc) o.wrote.length (xC o.wrote) := by rw [← HER.out]; exact s3.st.get 5 rfl
        have HV : Hid (∀ g2 cap2 w1, w1.ownsRow 0 3 1 (.slice (some ⟨g2, 0, none⟩) (o.wrote.length + 1) cap2) (o.wrote.length + 1) (xC o.wrote ++ [.int .i64 (k : Int)]) → (wr.alloc (.cells #[.int .i64 (k : Int)] 3)).grownBy w1 (Value.ownBlock (.slice ra o.wrote.length rc)) → (Value.ownBlock (.slice ra o.wrote.length rc) = some g2 ∨ g2 = wr.heap.size + 1) →
            OwAt b X { V with r := .slice (some ⟨g2, 0, none⟩) (o.wrote.length + 1) cap2 } { o with wrote := o.wrote ++ [(k : Int)] } R (w1.setCell ⟨X, 17, none⟩ (.slice (some ⟨g2, 0, none⟩) (o.wrote.length + 1) cap2)) ∧ w1.cell? ⟨X, 17, none⟩ = some (.slice ra o.wrote.length rc) ∧ w1.frozen? ⟨X, 17, none⟩ = false) := by
          intro g2 cap2 w1 p1 p2 p3
          have hh := s3.wroteD (ob := .cells #[.int .i64 (k : Int)] 3) p1 (by rw [HER.out]; exact p2) (by rw [HER.out]; exact p3)
          rw [HER.out] at hh
          exact hh
        clear s3 HS HF HS1 HHW
        generalize hXS : xC o.wrote = XS at *
        clear hXS
        go_upto_region 28 with (first | (at_builtin; refine wpList_append_lies _ rfl (.tmp 146) (.tmp 148) 67 rfl 0 3 ii _ 1 8 Tryz.underlying67 hii hy0 hy1 hy2 rfl (by omega) (.slice ra o.wrote.length rc) o.wrote.length XS rfl (hown.alloc _) ⟨wr.heap.size, 0, none⟩ 1 1 [.int .i64 (k : Int)] rfl rfl (World.news_of_block (cs := #[.int .i64 (k : Int)]) (t := 3) (fr := (0, 0)) (heap_alloc_new wr _)) (by simp [Value.oneCell']) (by omega) (by unfold maxLen; omega) (by omega) (Nat.zero_le _) (wr.heap.size + 1) (by simp) ?_; intro g2 cap2 w8 ho8 hg8 ha8 hl8; obtain ⟨s8, e4, ef4⟩ := HV.out _ _ _ ho8 hg8 ha8; have H8 := hid s8; clear hg8 ha8 hl8 ho8 s8) | simp only [hbs])
        have s9 := H8.out
        obtain ⟨w9, hw9⟩ : ∃ w9, w9 = w8.setCell ⟨X, 17, none⟩ (.slice (some ⟨g2, 0, none⟩) (o.wrote.length + 1) cap2) := ⟨_, rfl⟩
        rw [← hw9] at s9 ⊢
        have HS := hid s9
        clear s9 H8 hw9 c1 c1' cA fA e4 ef4 hown hbs f1 HV
        have s1 := HS.out.drew
        have d0 : w9.drew.cell? ⟨X, 0, none⟩ = some (.slice (some ⟨gc, 0, none⟩) o.cells.length cc) := by rw [← HEC.out]; exact s1.at 0 rfl
        have d0' : w9.drew.drew.cell? ⟨X, 0, none⟩ = some (.slice (some ⟨gc, 0, none⟩) o.cells.length cc) := by rw [← HEC.out]; exact s1.drew.at 0 rfl
        have hT0 : Calls Tryz.prog 57 #[.pointer (some ⟨X, 0, none⟩), .int .i64 0] w9.drew fun e w' => e = .returned (.int .i64 (o.top 0)) ∧ w' = w9.drew.drew := top_any s1 0 (show 0 < o.stack.length by omega)
        generalize hv : o.top 0 = v at *
        have HV := hid hv
        have q0 : (0 : Int) ≤ (k : Int) := by omega
        have q1 : (k : Int) < (o.cells.length : Int) := by omega
        have h9 : w9.drew.drew.ownsRow 0 2 1 (.slice (some ⟨gc, 0, none⟩) o.cells.length cc) o.cells.length (xC o.cells) := by have := s1.drew.cel; rw [show ({ V with r := .slice (some ⟨g2, 0, none⟩) (o.wrote.length + 1) cap2 } : OwV).c = _ from HEC.out] at this; exact this
        have e1 : w9.drew.drew.cell? ⟨gc, k, none⟩ = some (.int .i64 (o.cells.getD k 0)) := by
          rw [h9.cellAt k (by omega)]
          exact xC_at o.cells k hkc
        have e2 : w9.drew.drew.frozen? ⟨gc, k, none⟩ = false := h9.frozenAt k
        have s2 := s1.drew.setCel (show ({ V with r := .slice (some ⟨g2, 0, none⟩) (o.wrote.length + 1) cap2 } : OwV).c = _ from HEC.out) k hkc v
        have hDr : Calls Tryz.prog 56 #[.pointer (some ⟨X, 0, none⟩), .int .i64 2] _ _ := drop_any s2 2 (show 2 ≤ o.stack.length by omega) (show 0 < o.stack.length by omega)
        clear s1 s2 h9 hv HS
        go_region_law ((go_simp; go_at_call 57; refine hT0.mono ?_; rintro e wt ⟨rfl, rfl⟩))
        all_goals
          go_upto_region 44 with (go_at_call 56; refine hDr.mono ?_; rintro e w5 ⟨rfl, s5, hs5⟩)
          have g1 : w5.cell? ⟨X, 1, none⟩ = some (.int .i64 p) := by rw [← HP.out]; exact hs5.at 1 rfl
          have g2 : w5.frozen? ⟨X, 1, none⟩ = false := hs5.frz 1
          have H11 := hid (hs5.setPlace ((p : Int) + 1))
          clear hs5 hDr hT0 d0 d0' e1 e2
          go_wp2
          go_end0
          exact ⟨rfl, _, by (try rw [if_neg HM.out]); rw [HP.out, HV.out]; exact H11.out⟩
set_option maxRecDepth 100000 in
set_option maxHeartbeats 4000000 in
theorem shared_19 {b w : World} {X : Nat} {V : OwV} {o : Ow} {R : List It} {p : Nat} {a : Int} (h : OwAt b X V o R w) (hp : o.place = p) (hp4 : p ≤ 400) (hh : 0 < o.held.length) (hb : o.told.length + o.held.length ≤ 100000) :
    Calls Tryz.prog 55 #[.pointer (some ⟨X, 0, none⟩), .int .i64 19, .int .i64 a] w fun e w' => e = .returned (.tuple #[]) ∧ ∃ V', OwAt b X V' (o.go ⟨19, a⟩) R w' := by
  obtain ⟨i0, hi0, hz0, hz1, hz2⟩ := info_parts Tryz.infoX
  have HGO : Hid (o.go ⟨19, a⟩ = { o with inside := false, told := o.told ++ o.held, held := [], place := o.place + 1 }) := by
    show _ = _
    simp [Ow.go]
  rw [HGO.out]
  have HP := hid hp
  have b1 : w.cell? ⟨X, 1, none⟩ = some (.int .i64 p) := by rw [← hp]; exact h.at 1 rfl
  have b2 : w.cell? ⟨X, 13, none⟩ = some (.bool o.inside) := h.late 2 rfl
  have b3 : w.frozen? ⟨X, 13, none⟩ = false := h.frz 13
  have HS1 := hid (h.setInside false)
  clear h hp HGO
  go_enter Tryz.func55, Tryz.ntmps55
  go_upto_region 32 with fail
  have s1 := HS1.out
  obtain ⟨w3, hw3⟩ : ∃ w3, w3 = w.setCell ⟨X, 13, none⟩ (.bool false) := ⟨_, rfl⟩
  rw [← hw3] at s1 ⊢
  clear hw3 HS1 b1 b2 b3
  have hrt : w3.ownsRow 0 2 1 V.t o.told.length (xC o.told) := s1.st.get 3 rfl
  have hrh : w3.ownsRow 0 2 1 V.h o.held.length (xC o.held) := s1.st.get 4 rfl
  obtain ⟨ta, tc, eT, _⟩ := own_xin hrt
  obtain ⟨gh, hc, eH⟩ : ∃ gh hc, V.h = .slice (some ⟨gh, 0, none⟩) o.held.length hc := by
    rcases hrh.2 with ⟨_, hn⟩ | ⟨g, cap, cur, e, _⟩
    · omega
    · exact ⟨g, cap, e⟩
  have c1 : w3.drew.cell? ⟨X, 11, none⟩ = some (.slice ta o.told.length tc) := by rw [← eT]; exact s1.drew.late 0 rfl
  have c2 : w3.drew.cell? ⟨X, 12, none⟩ = some (.slice (some ⟨gh, 0, none⟩) o.held.length hc) := by rw [← eH]; exact s1.drew.late 1 rfl
  have c3 : w3.drew.frozen? ⟨X, 11, none⟩ = false := s1.drew.frz 11
  have hown : w3.drew.ownsRow 0 2 1 (.slice ta o.told.length tc) o.told.length (xC o.told) := by rw [← eT]; exact s1.drew.st.get 3 rfl
  have hnews : ∀ j u, (xC o.held)[j]? = some u → w3.drew.cell? ((⟨gh, 0, none⟩ : Addr).add j) = some u := fun j u hu => by
    have hj := (List.getElem?_eq_some_iff.1 hu).1
    have h9 : w3.drew.ownsRow 0 2 1 V.h o.held.length (xC o.held) := s1.drew.st.get 4 rfl
    rw [eH] at h9
    rw [Addr.add_lit, Nat.zero_add, h9.cellAt j (by rw [xC_length] at hj; omega)]
    exact hu
  have HNews := hid hnews
  have HV : Hid (∀ g2 cap2 w1, w1.ownsRow 0 2 1 (.slice (some ⟨g2, 0, none⟩) (o.told.length + o.held.length) cap2) (o.told.length + o.held.length) (xC o.told ++ xC o.held) → w3.drew.grownBy w1 (Value.ownBlock (.slice ta o.told.length tc)) → (Value.ownBlock (.slice ta o.told.length tc) = some g2 ∨ g2 = w3.heap.size) →
      OwAt b X { V with t := .slice (some ⟨g2, 0, none⟩) (o.told.length + o.held.length) cap2 } { o with inside := false, told := o.told ++ o.held } R (w1.setCell ⟨X, 11, none⟩ (.slice (some ⟨g2, 0, none⟩) (o.told.length + o.held.length) cap2)) ∧ w1.cell? ⟨X, 11, none⟩ = some (.slice ta o.told.length tc) ∧ w1.frozen? ⟨X, 11, none⟩ = false) := by
    intro g2 cap2 w1 p1 p2 p3
    have hh := s1.tellAll p1 (by rw [eT]; exact p2) (by rw [eT]; exact p3)
    rw [eT] at hh
    exact hh
  have hone := xC_one o.held
  have hln : (xC o.held).length = o.held.length * 1 := by rw [xC_length]; omega
  have HONE := hid hone
  have HLN := hid hln
  clear s1 hrt hrh hnews hone hln eT eH
  generalize hTN : o.told.length = tn at *
  generalize hHN : o.held.length = hn at *
  generalize xC o.told = TT at *
  generalize xC o.held = HH at *
  clear hTN hHN
  go_region_law
    ((refine step_append_lies _ (by rfl) _ _ _ (by rfl) 0 2 i0 _ 1 8 Tryz.underlying24 hi0 hz0 hz1 hz2 rfl (by omega) (.slice ta tn tc) tn TT (by rfl) hown
            ⟨gh, 0, none⟩ hn hc HH (by rfl) HLN.out HNews.out HONE.out hh (by unfold maxLen; omega) (by omega) (Nat.zero_le _) w3.heap.size (by rfl) ?_; intro g2 cap2 w1 hown1 hgrow hat hlt
      obtain ⟨s8, e4, ef4⟩ := HV.out g2 cap2 w1 hown1 hgrow hat
      have H8 := hid s8
      clear HV s8 hown1 hgrow hat hlt))
  all_goals
    have s9 := H8.out
    obtain ⟨w9, hw9⟩ : ∃ w9, w9 = w1.setCell ⟨X, 11, none⟩ (.slice (some ⟨g2, 0, none⟩) (tn + hn) cap2) := ⟨_, rfl⟩
    rw [← hw9] at s9 ⊢
    have d1 : w9.cell? ⟨X, 12, none⟩ = some V.h := s9.late 1 rfl
    have d2 : w9.frozen? ⟨X, 12, none⟩ = false := s9.frz 12
    have s10 := s9.dropHeld
    have HS10 := hid s10
    have d3 : (w9.setCell ⟨X, 12, none⟩ (.slice none 0 0)).cell? ⟨X, 1, none⟩ = some (.int .i64 p) := by rw [← HP.out]; exact s10.at 1 rfl
    have d4 : (w9.setCell ⟨X, 12, none⟩ (.slice none 0 0)).frozen? ⟨X, 1, none⟩ = false := s10.frz 1
    have H11 := hid (s10.setPlace ((p : Int) + 1))
    clear s9 s10 H8 hw9 c1 c2 c3 e4 ef4 hown
    go_wp2
    go_end0
    exact ⟨rfl, _, by rw [HP.out]; exact H11.out⟩
set_option maxRecDepth 100000 in
set_option maxHeartbeats 4000000 in
theorem shared_22 {b w : World} {X : Nat} {V : OwV} {o : Ow} {R : List It} {p : Nat} {a : Int} (h : OwAt b X V o R w) (hp : o.place = p) (hp4 : p ≤ 400)  :
    Calls Tryz.prog 55 #[.pointer (some ⟨X, 0, none⟩), .int .i64 22, .int .i64 a] w fun e w' => e = .returned (.tuple #[]) ∧ ∃ V', OwAt b X V' (o.go ⟨22, a⟩) R w' := by
  obtain ⟨i0, hi0, hz0, hz1, hz2⟩ := info_parts Tryz.infoX
  have HGO : Hid (o.go ⟨22, a⟩ = { o with done := true }) := by
    show _ = _
    simp [Ow.go]
  rw [HGO.out]
  have b1 : w.cell? ⟨X, 1, none⟩ = some (.int .i64 p) := by rw [← hp]; exact h.at 1 rfl
  have b2 : w.cell? ⟨X, 14, none⟩ = some (.bool o.done) := h.late 3 rfl
  have b3 : w.frozen? ⟨X, 14, none⟩ = false := h.frz 14
  have HS1 := hid h.setDone
  clear h hp HGO
  go_enter Tryz.func55, Tryz.ntmps55
  go_wp2
  refine bodyPost_ret (results_none rfl _ _ _) rfl ?_
  exact ⟨rfl, _, HS1.out⟩
end Go.Proofs.YtbpilhjomfkpaaaGreatDoor
