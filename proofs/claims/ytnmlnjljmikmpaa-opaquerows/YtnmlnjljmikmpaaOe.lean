/- Package opaque: Order. -/
import Derived.Test.YtnmlnjljmikmpaaOd
namespace Go.Proofs.Ytnmlnjljmikmpaa
open Go.RowKit Go.Shelf
set_option linter.unusedVariables false
set_option linter.unusedSimpArgs false
attribute [local go_sem ↓] Go.wp_at_zero Go.wp_at_succ

/-- The first j of a row are made. -/
def part {α : Type} (F : Nat → α) (z : α) (n j : Nat) : List α := (List.range j).map F ++ List.replicate (n - j) z
theorem part_len {α : Type} {F : Nat → α} {z : α} {n j : Nat} (h : j ≤ n) : (part F z n j).length = n := by simp [part]; omega
theorem part_at {α : Type} {F : Nat → α} {z : α} {n j : Nat} (h : j < n) : (part F z n j)[j]? = some z := by
  unfold part
  rw [List.getElem?_append_right (by simp)]
  rw [List.length_map, List.length_range, Nat.sub_self, List.getElem?_replicate, if_pos (by omega)]
theorem part_set {α : Type} {F : Nat → α} {z : α} {n j : Nat} (h : j < n) : (part F z n j).set j (F j) = part F z n (j + 1) := by
  unfold part
  rw [List.set_append_right _ _ (by simp)]
  have e : n - j = (n - (j + 1)) + 1 := by omega
  simp only [List.length_map, List.length_range, Nat.sub_self]
  rw [e, List.replicate_succ, List.set_cons_zero, List.range_succ, List.map_append]
  simp
theorem part_all {α : Type} (F : Nat → α) (z : α) (n : Nat) : part F z n n = (List.range n).map F := by simp [part]
theorem part_zero {α : Type} (F : Nat → α) (z : α) (n : Nat) : part F z n 0 = List.replicate n z := by simp [part]
abbrev keyOf (L : List Sm) : Nat → Pt := fun i => ptOf (L.getD i Sm.zero).s
/-- A point is stored. -/
theorem pt_put {o w : World} {its : List It} {i pb n cap : Nat} {ps : List Pt} (h : St o its w) (hi : its[i]? = some (ownI 51 3 (.slice (some ⟨pb, 0, none⟩) n cap) n (fl ptC ps))) (hn : n = ps.length) {j : Nat} {p : Pt} (hp : ps[j]? = some p) (q : Pt) :
    St o (its.set i (ownI 51 3 (.slice (some ⟨pb, 0, none⟩) n cap) n (fl ptC (ps.set j q)))) (((w.setCell ⟨pb, j * 3, none⟩ (.int .i64 q.nu)).setCell ⟨pb, j * 3 + 1, none⟩ (.int .i64 q.st)).setCell ⟨pb, j * 3 + 2, none⟩ (.bool q.ch)) := by
  have hj := (List.getElem?_eq_some_iff.1 hp).1
  have hi' := (List.getElem?_eq_some_iff.1 hi).1
  have s1 := r_set (f := ptC) (k := 3) (fun _ => rfl) h i hi hn hp 0 (by omega) (.int .i64 q.nu) (x' := ⟨q.nu, p.st, p.ch⟩) rfl
  have s2 := r_set (f := ptC) (k := 3) (fun _ => rfl) s1 i (set_self hi) (by simp [hn]) (j := j) (x := ⟨q.nu, p.st, p.ch⟩) (by simp [hj]) 1 (by omega) (.int .i64 q.st) (x' := ⟨q.nu, q.st, p.ch⟩) rfl
  simp only [List.set_set] at s2
  have s3 := r_set (f := ptC) (k := 3) (fun _ => rfl) s2 i (set_self hi) (by simp [hn]) (j := j) (x := ⟨q.nu, q.st, p.ch⟩) (by simp [hj]) 2 (by omega) (.bool q.ch) (x' := q) rfl
  simp only [List.set_set, Nat.add_zero] at s3
  exact s3
set_option maxRecDepth 100000 in
set_option maxHeartbeats 4000000 in
theorem order_any {w : World} {la : Option Addr} {n lc : Nat} {L : List Sm} (hl : LIn w la n L) (hn : n ≤ 1466015503701) : Calls Try.prog 10 #[.slice la n lc] w fun e w' => ∃ v o, e = .returned v ∧ Srt (keyOf L) 0 n o ∧ St w [ownI 3 1 v n (fl iC (asI o))] w' := by
  have HLN := hid hl.1.1
  have hm1 := r_make Try.rowI 0 (by intro i z0 h1 h2; rw [zero_of Try.infoI i z0 h1 h2]; rfl) n n rfl (by omega) w
  have s1 := r_new (f := iC) (k := 1) (fun _ => rfl) 3 (St.nil w) (List.replicate n 0) (by simp only [List.length_replicate]; unfold maxLen; omega)
  simp only [lstR, List.length_replicate] at s1
  generalize hw1 : w.alloc (.cells (fl iC (List.replicate n 0)).toArray 3) = w1 at *
  have hm2 := r_make Try.rowPt ⟨0, 0, false⟩ (by intro i z0 h1 h2; rw [zero_of Try.infoPt i z0 h1 h2]; rfl) n n rfl (by omega) w1
  have s2 := r_new (f := ptC) (k := 3) (fun _ => rfl) 51 s1 (List.replicate n ⟨0, 0, false⟩) (by simp only [List.length_replicate]; unfold maxLen; omega)
  simp only [lstR, List.length_replicate] at s2
  generalize w1.alloc (.cells (fl ptC (List.replicate n ⟨0, 0, false⟩)).toArray 51) = w2 at *
  generalize w.heap.size = G at *
  generalize w1.heap.size = P at *
  have s3 := s2.box #[.slice (some ⟨P, 0, none⟩) n n] 49
  generalize hw3 : w2.alloc (.cells #[.slice (some ⟨P, 0, none⟩) n n] 49) = w3 at *
  generalize hV : w2.heap.size = V at *
  have HS3 := hid (St.move (l := [_, _, _]) (T := []) s3 3 rfl [2, 0, 1] (by decide))
  have HL := hid hl
  have hn1 : (n : Int) ≤ 1466015503701 := by omega
  have HN := hid hn
  clear s1 s2 s3 hl hn hw1
  go_enter Try.func10, Try.ntmps10
  go_upto_region 4 with (first | simp only [hm1] | simp only [hm2] | simp only [hw3, hV])
  clear hm1 hm2 hw3 hV
  go_loopw [15] (fun i wr => ∃ j : Nat, i = .int .i64 j ∧ j ≤ n ∧ St w [ownI 3 1 (.slice (some ⟨G, 0, none⟩) n n) n (fl iC (part (fun i : Nat => (i : Int)) 0 n j)), boxI V #[.slice (some ⟨P, 0, none⟩) n n] 49, ownI 51 3 (.slice (some ⟨P, 0, none⟩) n n) n (fl ptC (part (keyOf L) ⟨0, 0, false⟩ n j))] wr) (fun i _ => n - (intOf i).toNat)
  case atStart => exact ⟨0, rfl, Nat.zero_le _, by rw [part_zero (fun i : Nat => (i : Int)), part_zero (keyOf L)]; exact HS3.out⟩
  case round =>
    clear HS3
    obtain ⟨j, rfl, hj, hs⟩ := hrel
    by_cases hlt : j < n
    · have hlt' : (j : Int) < (n : Int) := by omega
      have hj0 : (0 : Int) ≤ (j : Int) := by omega
      obtain ⟨g, off, rfl⟩ := HL.out.1.addr (by omega)
      obtain ⟨m, hx⟩ : ∃ x, L[j]? = some x := ⟨_, List.getElem?_eq_getElem (by have := HLN.out; omega)⟩
      have HX : Hid (keyOf L j = ptOf m.s) := hid (by simp [keyOf, List.getD_eq_getElem?_getD, hx])
      have HM := hid (HL.out.2 m (List.mem_of_getElem? hx))
      obtain ⟨⟨z0, z1, z2, z3, z4, z5, z6, z7, z8, ms⟩, ma, mc⟩ := m
      have q := fun i u hu => (HL.out.1.kept hs.same).at (k := 10) (fun _ => rfl) hx i u hu
      have q0 := q 0 _ rfl
      have q1 := q 1 _ rfl
      have q2 := q 2 _ rfl
      have q3 := q 3 _ rfl
      have q4 := q 4 _ rfl
      have q5 := q 5 _ rfl
      have q6 := q 6 _ rfl
      have q7 := q 7 _ rfl
      have q8 := q 8 _ rfl
      have q9 := q 9 _ rfl
      rw [Nat.add_zero] at q0
      simp only at q0 q1 q2 q3 q4 q5 q6 q7 q8 q9
      have s1 := hs.box #[.int .i64 z0, .int .i64 z1, .int .i64 z2, .int .i64 z3, .int .i64 z4, .int .i64 z5, .int .i64 z6, .int .i64 z7, .int .i64 z8, .slice ma ms.length mc] 44
      have hxo := part_at (F := fun i : Nat => (i : Int)) (z := (0 : Int)) hlt
      have e2 := fl_at (f := iC) (k := 1) (fun _ => rfl) _ j 0 0 (by omega) hxo
      rw [Nat.mul_one, Nat.add_zero] at e2
      have d0 := (s1.ownCell 1 rfl j (by omega)).trans e2
      clear e2
      have f0 := s1.ownFrozen 1 rfl j
      have s2 := r_set (f := iC) (k := 1) (fun _ => rfl) s1 1 rfl (part_len hj).symm hxo 0 (by omega) (.int .i64 j) (x' := (j : Int)) rfl
      rw [part_set (F := fun i : Nat => (i : Int)) hlt, Nat.mul_one, Nat.add_zero] at s2
      generalize hw4 : wr.alloc (.cells #[.int .i64 z0, .int .i64 z1, .int .i64 z2, .int .i64 z3, .int .i64 z4, .int .i64 z5, .int .i64 z6, .int .i64 z7, .int .i64 z8, .slice ma ms.length mc] 44) = w4 at *
      generalize hB : wr.heap.size = B at *
      have HS2 := hid s2
      have HJ : Hid (j + 1 ≤ n ∧ n - (j + 1) < n - j) := hid ⟨by omega, by omega⟩
      have HLT := hid hlt
      clear q hs s1 s2 hx hj hlt hxo
      go_upto_region 7 with (simp only [hw4, hB])
      clear q0 q1 q2 q3 q4 q5 q6 q7 q8 q9 hw4 hB d0 f0
      generalize w4.setCell ⟨G, j, none⟩ (.int .i64 j) = w5 at *
      have hP := fun W (k : Kept (fun _ => False) w5 W) => (pointOf_any (w := W) ⟨⟨z0, z1, z2, z3, z4, z5, z6, z7, z8, ms⟩, ma, mc⟩ (HM.out.kept (HS2.out.calm k).same)).mono (fun e w' h => (⟨h.1, k.trans h.2 (fun _ _ f => f)⟩ : e = _ ∧ Kept (fun _ => False) w5 w'))
      unfold syV at hP
      simp only at hP
      have HF : Hid (∀ W, Kept (fun _ => False) w5 W → (W.cell? ⟨V, 0, none⟩ = some (.slice (some ⟨P, 0, none⟩) n n) ∧ W.cell? ⟨B, 0, none⟩ = some (.int .i64 z0) ∧ W.cell? ⟨B, 1, none⟩ = some (.int .i64 z1) ∧ W.cell? ⟨B, 2, none⟩ = some (.int .i64 z2) ∧ W.cell? ⟨B, 3, none⟩ = some (.int .i64 z3) ∧ W.cell? ⟨B, 4, none⟩ = some (.int .i64 z4) ∧ W.cell? ⟨B, 5, none⟩ = some (.int .i64 z5) ∧ W.cell? ⟨B, 6, none⟩ = some (.int .i64 z6) ∧ W.cell? ⟨B, 7, none⟩ = some (.int .i64 z7) ∧ W.cell? ⟨B, 8, none⟩ = some (.int .i64 z8) ∧ W.cell? ⟨B, 9, none⟩ = some (.slice ma ms.length mc)) ∧ (W.cell? ⟨P, j * 3, none⟩ = some (.int .i64 0) ∧ W.cell? ⟨P, j * 3 + 1, none⟩ = some (.int .i64 0) ∧ W.cell? ⟨P, j * 3 + 2, none⟩ = some (.bool false)) ∧ W.frozen? ⟨P, j * 3, none⟩ = false ∧ W.frozen? ⟨P, j * 3 + 1, none⟩ = false ∧ W.frozen? ⟨P, j * 3 + 2, none⟩ = false) := hid (fun W hW => by
        have s := HS2.out.calm hW
        have := ptCell s (i := 3) rfl (part_len (Nat.le_of_lt HLT.out)).symm (part_at HLT.out)
        exact ⟨⟨s.cell 2 rfl 0, s.cell 0 rfl 0, s.cell 0 rfl 1, s.cell 0 rfl 2, s.cell 0 rfl 3, s.cell 0 rfl 4, s.cell 0 rfl 5, s.cell 0 rfl 6, s.cell 0 rfl 7, s.cell 0 rfl 8, s.cell 0 rfl 9⟩, this.1, this.2⟩)
      have HE : Hid (∀ W, Kept (fun _ => False) w5 W → St w [ownI 3 1 (.slice (some ⟨G, 0, none⟩) n n) n (fl iC (part (fun i : Nat => (i : Int)) 0 n (j + 1))), boxI V #[.slice (some ⟨P, 0, none⟩) n n] 49, ownI 51 3 (.slice (some ⟨P, 0, none⟩) n n) n (fl ptC (part (keyOf L) ⟨0, 0, false⟩ n (j + 1)))] (((W.setCell ⟨P, j * 3, none⟩ (.int .i64 (ptOf ⟨z0, z1, z2, z3, z4, z5, z6, z7, z8, ms⟩).nu)).setCell ⟨P, j * 3 + 1, none⟩ (.int .i64 (ptOf ⟨z0, z1, z2, z3, z4, z5, z6, z7, z8, ms⟩).st)).setCell ⟨P, j * 3 + 2, none⟩ (.bool (ptOf ⟨z0, z1, z2, z3, z4, z5, z6, z7, z8, ms⟩).ch))) := hid (fun W hW => by
        have s := pt_put (HS2.out.calm hW) (i := 3) rfl (part_len (Nat.le_of_lt HLT.out)).symm (part_at HLT.out) (ptOf ⟨z0, z1, z2, z3, z4, z5, z6, z7, z8, ms⟩)
        rw [← HX.out, part_set HLT.out] at s
        rw [← HX.out]
        exact s.pop)
      generalize ptOf ⟨z0, z1, z2, z3, z4, z5, z6, z7, z8, ms⟩ = pp at *
      obtain ⟨p1, p2, p3⟩ := pp
      unfold ptV at hP
      simp only at hP HE
      obtain ⟨⟨e0, e1, e2, e3, e4, e5, e6, e7, e8, e9, eA⟩, ⟨g0, g1, g2⟩, h0, h1, h2⟩ := HF.out _ (Kept.refl _ w5)
      obtain ⟨⟨e0', e1', e2', e3', e4', e5', e6', e7', e8', e9', eA'⟩, ⟨g0', g1', g2'⟩, h0', h1', h2'⟩ := HF.out _ (Kept.refl _ w5).drew
      refine (fun key : ?KEY ∧ True => ?main) ⟨?keyproof, trivial⟩
      case main =>
        go_region_with (first | (go_at_call 20; refine (hP _ (Kept.refl _ _).drew).mono ?_; rintro e w6 ⟨rfl, hk6⟩; obtain ⟨⟨e0, e1, e2, e3, e4, e5, e6, e7, e8, e9, eA⟩, ⟨g0, g1, g2⟩, h0, h1, h2⟩ := HF.out _ hk6; have HK6 := hid hk6; clear hk6))
        all_goals
          clear e0 e1 e2 e3 e4 e5 e6 e7 e8 e9 eA g0 g1 g2 h0 h1 h2
          revert HK6
          revert w6
          exact key.1
      case keyproof =>
        intro w6 HK6
        have HE6 := hid (HE.out _ HK6.out)
        clear HE HF hP HK6
        go_wp2
        go_roundw
        case rel => exact ⟨j + 1, by simp, HJ.out.1, HE6.out⟩
        case measure => have := HJ.out.2; simp [intOf]; omega
    · obtain rfl : j = n := by omega
      have hlt' : ¬ (j : Int) < (j : Int) := by omega
      rw [part_all, part_all] at hs
      rcases Nat.eq_zero_or_pos j with h0 | h0
      · subst h0
        have hsn := fun fv W => sort_none (la := some ⟨G, 0, none⟩) (cap := 0) fv W
        have HS := hid (St.cut (A := [_]) hs)
        clear hs HL
        go_wp2_with (go_at_call 21; refine (hsn _ _).mono ?_; rintro e w' ⟨rfl, rfl⟩)
        go_ret
        exact ⟨_, [], rfl, ⟨by simp, by simp⟩, HS.out⟩
      · have hso := sort_any (R := []) h0 HN.out hs
        clear hs HL
        go_wp2_with (go_at_call 21; refine hso.mono ?_; rintro e w' ⟨rfl, o, ho, hs'⟩; have HO := hid ho; have HS := hid (St.cut (A := [_]) hs'); clear ho hs')
        go_ret
        exact ⟨_, o, rfl, HO.out, HS.out⟩
end Go.Proofs.Ytnmlnjljmikmpaa
