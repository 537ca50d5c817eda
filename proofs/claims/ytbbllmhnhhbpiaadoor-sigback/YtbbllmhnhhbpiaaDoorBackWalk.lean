/- SigBack, step by step: it answers true. -/
import Derived.Test.YtbbllmhnhhbpiaaDoorFacts
import Derived.Test.YtbbllmhnhhbpiaaDoorUp
namespace Go.Proofs.YtbbllmhnhhbpiaaDoor
open Go.RowKit
set_option linter.unusedVariables false
set_option linter.unusedSimpArgs false

theorem Many.two {w W : World} {n m : Nat} {a b : Sg} (A : Box W n a) (B : Box W m b) (K : Kept (fun _ => False) w W) : Many w [(n, a), (m, b)] W := by
  refine ⟨fun x hx => ?_, K⟩
  simp only [List.mem_cons, List.not_mem_nil, or_false] at hx
  rcases hx with rfl | rfl
  · exact A
  · exact B
theorem cellsOf_ints' (l : List Nat) : cellsOf l = (l.map fun b : Nat => (b : Int)).map (Value.int .i64) := by simp [cellsOf, Function.comp_def]
theorem same_zero (s : Sg) : s.same Sg.zero = (((s.lo : Int) == 0) && ((s.hi : Int) == 0)) := rfl

set_option maxRecDepth 100000 in
set_option maxHeartbeats 4000000 in
theorem sigBack_walk (a b : Sg) (ha : a.ok) (hb : b.ok) (w : World) (hT : Tab w) :
    Calls Tryd.prog 6 #[a.val, b.val] w fun e w' => e = .returned (.bool true) ∧ Kept (fun _ => False) w w' := by
  have hA := fun W (h : Tab W) => awake_any W h
  have HT : Hid (∀ W, Kept (fun _ => False) w W → Tab W) := fun W k => hT.kept k id
  have hm := Sg.ok_meet (t := b) ha
  have hd := Sg.ok_minus (t := b) ha
  have F28 : Hid (∀ W, Tab W → Calls Tryd.prog 28 #[a.val] W fun e W' => ∃ v, e = .returned v ∧ W'.ownsRow W.heap.size 3 1 v a.bits.length (cellsOf a.bits) ∧ Kept (fun _ => False) W W') := fun W h => bits_any a ha W h
  have F15 : Hid (∀ W ga ca, IntsIn W ga a.bits.length (a.bits.map fun b : Nat => (b : Int)) → Calls Tryd.prog 15 #[.slice ga a.bits.length ca] W fun e W' => e = .returned (.tuple #[a.val, .int .i64 0]) ∧ Kept (fun _ => False) W W') := fun W ga ca h => by
    have := from_any ga a.bits.length ca _ W h (Nat.le_trans (bits_le a) (by decide))
    rwa [from_bits a ha] at this
  have f20 := fun l => Many.of_calls (w := w) (l := l) (meet_any a b ha hb)
  have f22 := fun l => Many.of_calls (w := w) (l := l) (minus_any a b ha hb)
  have f18 := fun l => Many.of_calls (w := w) (l := l) (join_any (a.meet b) (a.minus b) hm hd)
  rw [parts_join a b ha] at f18
  have f24 := fun l => Many.of_calls (w := w) (l := l) (meets_any (a.minus b) b hd hb)
  rw [minus_apart a b ha] at f24
  have f26 := fun l => Many.of_calls (w := w) (l := l) (within_any (a.meet b) b hm hb)
  rw [meet_within a b ha hb] at f26
  have f26' := fun l => Many.of_calls (w := w) (l := l) (within_any (a.meet b) a hm ha)
  rw [meet_within' a b ha] at f26'
  have c33m := fun l => Many.of_calls (w := w) (l := l) (countB_any (a.meet b) hm)
  have c33d := fun l => Many.of_calls (w := w) (l := l) (countB_any (a.minus b) hd)
  have c33a := fun l => Many.of_calls (w := w) (l := l) (countB_any a ha)
  have c33b := fun l => Many.of_calls (w := w) (l := l) (countB_any b hb)
  have c33j := fun l => Many.of_calls (w := w) (l := l) (countB_any (a.join b) (Sg.ok_join ha hb))
  have g18 := fun l => Many.of_calls (w := w) (l := l) (join_any a b ha hb)
  have g24 := fun l => Many.of_calls (w := w) (l := l) (meets_any a b ha hb)
  have g26 := fun l => Many.of_calls (w := w) (l := l) (within_any a b ha hb)
  rw [within_minus a b ha hb] at g26
  have HC1 : Hid ((a.meet b).bits.length + (a.minus b).bits.length = a.bits.length) := counts_parts a b
  have HC2 : Hid ((a.join b).bits.length = (a.minus b).bits.length + b.bits.length) := counts_join a b
  have l1 := bits_le (a.meet b)
  have l2 := bits_le (a.minus b)
  have l3 := bits_le b
  have R1 : Hid ((!(((a.meet b).lo : Int) == 0) || !(((a.meet b).hi : Int) == 0)) = !((a.meet b).same Sg.zero)) := by
    show _ = _
    rw [same_zero, Bool.not_and]
  have R2 : Hid ((((a.minus b).lo : Int) == 0 && ((a.minus b).hi : Int) == 0) = (a.minus b).same Sg.zero) := by
    show _ = _
    rw [same_zero]
  generalize (!((a.meet b).same Sg.zero)) = r1 at *
  generalize ((a.minus b).same Sg.zero) = r2 at *
  generalize hnm : (a.meet b).bits.length = nm at *
  generalize hnd : (a.minus b).bits.length = nd at *
  generalize hnj : (a.join b).bits.length = nj at *
  generalize hnb : b.bits.length = nb at *
  generalize a.meet b = M at *
  generalize a.minus b = D at *
  generalize a.join b = J at *
  generalize hLB : a.bits = LB at *
  generalize hna : LB.length = na at *
  have HNA : Hid (LB.length = na) := hna
  clear hnm hnd hnj hnb hLB hna hm hd
  have HD : Hid (∀ W l n s, Many w l W → (n, s) ∈ l → W.cell? ⟨n, 0, none⟩ = some (.int .u64 (s.lo : Nat)) ∧ W.cell? ⟨n, 1, none⟩ = some (.int .u64 (s.hi : Nat))) := fun W l n s h hp => ⟨(h.box _ hp).c0, (h.box _ hp).c1⟩
  obtain ⟨a0, a1⟩ := a
  obtain ⟨b0, b1⟩ := b
  obtain ⟨m0, m1⟩ := M
  obtain ⟨d0, d1⟩ := D
  obtain ⟨j0, j1⟩ := J
  simp only [Sg.val] at *
  have hE := eqS
  clear ha hb hT
  go_enter Tryd.func6, Tryd.ntmps6
  go_wp2_with fail
  generalize hW : (w.alloc (.cells #[.int .u64 a0, .int .u64 a1] 31)).alloc (.cells #[.int .u64 b0, .int .u64 b1] 31) = W
  obtain ⟨A, B, K⟩ := hasTwo w a0 a1 b0 b1 hW
  clear hW
  generalize w.heap.size = p at *
  have hD : Many w [(p, ⟨a0, a1⟩), (p + 1, ⟨b0, b1⟩)] W := Many.two A B K
  clear A B
  refine (hA W (HT.out _ K)).mono ?_
  rintro e wa ⟨rfl, ka⟩
  replace hD := hD.kept ka
  clear K ka hA
  have xa := HD.out _ _ p ⟨a0, a1⟩ hD (by simp)
  have xb := HD.out _ _ (p + 1) ⟨b0, b1⟩ hD (by simp)
  obtain ⟨xa0, xa1⟩ := xa
  obtain ⟨xb0, xb1⟩ := xb
  simp only at xa0 xa1 xb0 xb1
  go_wp2_with fail
  refine (F28.out _ (HT.out _ hD.K)).mono ?_
  rintro e u1 ⟨vl, rfl, ol, kl⟩
  replace hD := hD.kept kl
  obtain ⟨gl, cl, rfl, _⟩ := owned_shape ol
  have il : IntsIn u1 gl na (LB.map fun b : Nat => (b : Int)) := by
    rw [cellsOf_ints'] at ol
    exact owned_ints ol
  clear ol kl xa0 xa1 xb0 xb1
  go_wp2_with fail
  refine (F15.out _ _ _ il).mono ?_
  rintro e u2 ⟨rfl, k2⟩
  replace hD := hD.kept k2
  clear k2 il
  replace hD := hD.add a0 a1
  obtain ⟨xa0, xa1⟩ := HD.out _ _ p ⟨a0, a1⟩ hD (by simp)
  obtain ⟨xb0, xb1⟩ := HD.out _ _ (p + 1) ⟨b0, b1⟩ hD (by simp)
  simp only at xa0 xa1 xb0 xb1
  go_wp2_with fail
  clear xa0 xa1 xb0 xb1
  generalize u2.alloc (.cells #[.int .u64 a0, .int .u64 a1] 31) = v2 at *
  generalize u2.heap.size = q1 at *
  refine (f20 _ _ hD).mono ?_
  rintro e u3 ⟨rfl, hD⟩
  replace hD := hD.add m0 m1
  obtain ⟨xa0, xa1⟩ := HD.out _ _ p ⟨a0, a1⟩ hD (by simp)
  obtain ⟨xb0, xb1⟩ := HD.out _ _ (p + 1) ⟨b0, b1⟩ hD (by simp)
  simp only at xa0 xa1 xb0 xb1
  go_wp2_with fail
  clear xa0 xa1 xb0 xb1
  generalize u3.alloc (.cells #[.int .u64 m0, .int .u64 m1] 31) = v3 at *
  generalize u3.heap.size = q2 at *
  refine (f22 _ _ hD).mono ?_
  rintro e u4 ⟨rfl, hD⟩
  replace hD := hD.add d0 d1
  obtain ⟨xm0, xm1⟩ := HD.out _ _ q2 ⟨m0, m1⟩ hD (by simp)
  obtain ⟨xd0, xd1⟩ := HD.out _ _ u4.heap.size ⟨d0, d1⟩ hD (by simp)
  simp only at xm0 xm1 xd0 xd1
  go_wp2_with fail
  clear xm0 xm1 xd0 xd1
  generalize u4.alloc (.cells #[.int .u64 d0, .int .u64 d1] 31) = v4 at *
  generalize u4.heap.size = q3 at *
  refine (f18 _ _ hD).mono ?_
  rintro e u5 ⟨rfl, hD⟩
  replace hD := hD.add a0 a1
  obtain ⟨xd0, xd1⟩ := HD.out _ _ q3 ⟨d0, d1⟩ hD (by simp)
  obtain ⟨xb0, xb1⟩ := HD.out _ _ (p + 1) ⟨b0, b1⟩ hD (by simp)
  simp only at xb0 xb1 xd0 xd1
  go_wp2_with fail
  clear xb0 xb1 xd0 xd1
  generalize u5.alloc (.cells #[.int .u64 a0, .int .u64 a1] 31) = v5 at *
  generalize u5.heap.size = q4 at *
  refine (f24 _ _ hD).mono ?_
  rintro e u6 ⟨rfl, hD⟩
  obtain ⟨xm0, xm1⟩ := HD.out _ _ q2 ⟨m0, m1⟩ hD (by simp)
  obtain ⟨xb0, xb1⟩ := HD.out _ _ (p + 1) ⟨b0, b1⟩ hD (by simp)
  simp only at xb0 xb1 xm0 xm1
  go_wp2_with fail
  clear xb0 xb1 xm0 xm1
  refine (f26 _ _ hD).mono ?_
  rintro e u7 ⟨rfl, hD⟩
  obtain ⟨xm0, xm1⟩ := HD.out _ _ q2 ⟨m0, m1⟩ hD (by simp)
  obtain ⟨xa0, xa1⟩ := HD.out _ _ p ⟨a0, a1⟩ hD (by simp)
  simp only at xa0 xa1 xm0 xm1
  go_wp2_with fail
  clear xa0 xa1 xm0 xm1
  refine (f26' _ _ hD).mono ?_
  rintro e u8 ⟨rfl, hD⟩
  clear f20 f22 f18 f24 f26 f26' F28 F15 HT
  go_wp2_with fail
  replace hD := hD.drew
  have hc1 : (IntKind.i64.wrap ((nm : Int) + (nd : Int)) == (na : Int)) = true := by
    have := HC1.out
    rw [IntKind.wrap_i64]
    simp; omega
  have hc2 : ((nj : Int) == IntKind.i64.wrap ((nd : Int) + (nb : Int))) = true := by
    have := HC2.out
    rw [IntKind.wrap_i64]
    simp; omega
  have n1 : (0 : Int) ≤ (nm : Int) := by omega
  have n2 : (nm : Int) ≤ 128 := by omega
  have n3 : (0 : Int) ≤ (nd : Int) := by omega
  have n4 : (nd : Int) ≤ 128 := by omega
  have n5 : (0 : Int) ≤ (nb : Int) := by omega
  have n6 : (nb : Int) ≤ 128 := by omega
  generalize hLL : [(q4, (⟨a0, a1⟩ : Sg)), (q3, ⟨d0, d1⟩), (q2, ⟨m0, m1⟩), (q1, ⟨a0, a1⟩), (p, ⟨a0, a1⟩), (p + 1, ⟨b0, b1⟩)] = LL at *
  have HC : Hid (∀ W, Many w LL W → W.cell? ⟨p, 0, none⟩ = some (.int .u64 a0) ∧ W.cell? ⟨p, 1, none⟩ = some (.int .u64 a1) ∧ W.cell? ⟨p + 1, 0, none⟩ = some (.int .u64 b0) ∧ W.cell? ⟨p + 1, 1, none⟩ = some (.int .u64 b1) ∧ W.cell? ⟨q2, 0, none⟩ = some (.int .u64 m0) ∧ W.cell? ⟨q2, 1, none⟩ = some (.int .u64 m1) ∧ W.cell? ⟨q3, 0, none⟩ = some (.int .u64 d0) ∧ W.cell? ⟨q3, 1, none⟩ = some (.int .u64 d1) ∧ W.cell? ⟨q1, 0, none⟩ = some (.int .u64 a0) ∧ W.cell? ⟨q1, 1, none⟩ = some (.int .u64 a1) ∧ W.cell? ⟨q4, 0, none⟩ = some (.int .u64 a0) ∧ W.cell? ⟨q4, 1, none⟩ = some (.int .u64 a1) ∧ Many w LL W) := fun W h => by
    have y1 := HD.out W LL p ⟨a0, a1⟩ h (by rw [← hLL]; simp)
    have y2 := HD.out W LL (p + 1) ⟨b0, b1⟩ h (by rw [← hLL]; simp)
    have y3 := HD.out W LL q2 ⟨m0, m1⟩ h (by rw [← hLL]; simp)
    have y4 := HD.out W LL q3 ⟨d0, d1⟩ h (by rw [← hLL]; simp)
    have y5 := HD.out W LL q1 ⟨a0, a1⟩ h (by rw [← hLL]; simp)
    have y6 := HD.out W LL q4 ⟨a0, a1⟩ h (by rw [← hLL]; simp)
    exact ⟨y1.1, y1.2, y2.1, y2.2, y3.1, y3.2, y4.1, y4.2, y5.1, y5.2, y6.1, y6.2, h⟩
  clear hLL
  go_region_held3 (fun w' => w'.cell? ⟨p, 0, none⟩ = some (.int .u64 a0) ∧ w'.cell? ⟨p, 1, none⟩ = some (.int .u64 a1) ∧ w'.cell? ⟨p + 1, 0, none⟩ = some (.int .u64 b0) ∧ w'.cell? ⟨p + 1, 1, none⟩ = some (.int .u64 b1) ∧ w'.cell? ⟨q2, 0, none⟩ = some (.int .u64 m0) ∧ w'.cell? ⟨q2, 1, none⟩ = some (.int .u64 m1) ∧ w'.cell? ⟨q3, 0, none⟩ = some (.int .u64 d0) ∧ w'.cell? ⟨q3, 1, none⟩ = some (.int .u64 d1) ∧ w'.cell? ⟨q1, 0, none⟩ = some (.int .u64 a0) ∧ w'.cell? ⟨q1, 1, none⟩ = some (.int .u64 a1) ∧ w'.cell? ⟨q4, 0, none⟩ = some (.int .u64 a0) ∧ w'.cell? ⟨q4, 1, none⟩ = some (.int .u64 a1) ∧ Many w LL w')
    (first | exact HC.out _ hD)
    (first | (go_at_call 18; refine (g18 _ _ hD).mono ?_; rintro e w1 ⟨rfl, hD⟩) | (go_at_call_of 33 m0; refine (c33m _ _ hD).mono ?_; rintro e w1 ⟨rfl, hD⟩) | (go_at_call_of 33 d0; refine (c33d _ _ hD).mono ?_; rintro e w1 ⟨rfl, hD⟩) | (go_at_call_of 33 a0; refine (c33a _ _ hD).mono ?_; rintro e w1 ⟨rfl, hD⟩) | (go_at_call_of 33 b0; refine (c33b _ _ hD).mono ?_; rintro e w1 ⟨rfl, hD⟩) | (go_at_call_of 33 j0; refine (c33j _ _ hD).mono ?_; rintro e w1 ⟨rfl, hD⟩))
  replace hD := hD.drew
  clear g18 c33m c33d c33a c33b c33j hc1 hc2 n1 n2 n3 n4 n5 n6 l1 l2 l3
  have e1 : ((a0 : Int) == (a0 : Int)) = true := by simp
  have e2 : ((a1 : Int) == (a1 : Int)) = true := by simp
  have e3 : (r1 == r1) = true := by simp
  have e4 : (r2 == r2) = true := by simp
  have h1 := R1.out
  have h2 := R2.out
  go_wp2_with fail
  go_region_held3 (fun w' => w'.cell? ⟨p, 0, none⟩ = some (.int .u64 a0) ∧ w'.cell? ⟨p, 1, none⟩ = some (.int .u64 a1) ∧ w'.cell? ⟨p + 1, 0, none⟩ = some (.int .u64 b0) ∧ w'.cell? ⟨p + 1, 1, none⟩ = some (.int .u64 b1) ∧ w'.cell? ⟨q2, 0, none⟩ = some (.int .u64 m0) ∧ w'.cell? ⟨q2, 1, none⟩ = some (.int .u64 m1) ∧ w'.cell? ⟨q3, 0, none⟩ = some (.int .u64 d0) ∧ w'.cell? ⟨q3, 1, none⟩ = some (.int .u64 d1) ∧ w'.cell? ⟨q1, 0, none⟩ = some (.int .u64 a0) ∧ w'.cell? ⟨q1, 1, none⟩ = some (.int .u64 a1) ∧ w'.cell? ⟨q4, 0, none⟩ = some (.int .u64 a0) ∧ w'.cell? ⟨q4, 1, none⟩ = some (.int .u64 a1) ∧ Many w LL w')
    (first | exact HC.out _ hD)
    (first | (go_at_call 24; refine (g24 _ _ hD).mono ?_; rintro e w2 ⟨rfl, hD⟩) | (go_at_call 26; refine (g26 _ _ hD).mono ?_; rintro e w2 ⟨rfl, hD⟩))
  go_wp2
  go_ret
  exact ⟨rfl, hD.K⟩
end Go.Proofs.YtbbllmhnhhbpiaaDoor
