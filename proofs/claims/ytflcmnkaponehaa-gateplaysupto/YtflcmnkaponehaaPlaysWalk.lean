/- GatePlays's walk: two gates of one meter, every call in every order, against the document's. -/
import Derived.Test.YtflcmnkaponehaaUp
import Derived.Test.YtflcmnkaponehaaPlaysRel
namespace Go.Proofs.Ytflcmnkaponehaa
open Go.RowKit
set_option linter.unusedVariables false
set_option linter.unusedSimpArgs false
attribute [local go_sem ↓] Go.wp_at_zero Go.wp_at_succ

set_option maxRecDepth 100000 in
set_option maxHeartbeats 4000000 in
theorem plays_walk (a : Option Addr) (len cap : Nat) (f : Nat → OpD) (w : World) (hs : ScriptAt w a len f) (hlen : len ≤ 1048576) :
    Calls Try.prog 3 #[.slice a len cap] w fun e w' => e = .returned (.bool true) ∧ Kept (fun _ => False) w w' := by
  have HS : Hid (ScriptAt w a len f) := hs
  clear hs
  go_enter Try.func3, Try.ntmps3
  go_wp2_with fail
  refine (awake_any _).mono ?_
  rintro e wa ⟨rfl, hka⟩
  have hA := (St.nil w).calm hka
  have hN := newMeter_st hA
  clear hka
  go_wp2_with fail
  refine hN.mono ?_
  rintro e wm ⟨rfl, hM, hz⟩
  clear hz hN hA
  generalize wa.heap.size = m at *
  have hG := gateNew_st hM (some m)
  go_wp2_with fail
  refine hG.mono ?_
  rintro e wg ⟨rfl, hS0, hz⟩
  clear hG hM hz
  generalize wm.heap.size + 1 + 1 = g at *
  generalize wm.heap.size + 1 = r at *
  generalize wm.heap.size = c at *
  have hG := gateNew_st hS0 (some m)
  go_wp2_with fail
  refine hG.mono ?_
  rintro e wh ⟨rfl, hS1, hz⟩
  clear hG hS0 hz
  generalize wg.heap.size + 1 + 1 = h at *
  generalize wg.heap.size + 1 = p at *
  generalize wg.heap.size = d at *
  have hS2 : St w (meterI 31 (some wh.heap.size) Mt.zero (.slice none 0 0) :: _) (wh.alloc (.cells #[.int .i64 0, .int .i64 0, .int .i64 0, .int .i64 0, .slice none 0 0] 31)) :=
    hS1.push (meterI 31 (some wh.heap.size) Mt.zero (.slice none 0 0)) (kept_alloc wh _) ⟨heap_alloc_new wh _, World.ownsRow_nil _ _ _ _, by simp [Value.ownBlock]⟩ (by simp [meterI, Value.ownBlock]) (by simp [meterI, Value.ownBlock])
  clear hS1
  have hz2 : (wh.alloc (.cells #[.int .i64 0, .int .i64 0, .int .i64 0, .int .i64 0, .slice none 0 0] 31)).heap.size = wh.heap.size + 1 := by simp
  have hS3 := hS2.box #[.pointer (some ⟨wh.heap.size, 0, none⟩), .int .i64 0, .int .i64 0] 36
  have hS4 := hS3.box #[.pointer (some ⟨wh.heap.size, 0, none⟩), .int .i64 0, .int .i64 0] 36
  have HT0 : Hid (PRel w g r c h p d m wh.heap.size (wh.heap.size + 1) (wh.heap.size + 1 + 1) 0 Mt.zero (.slice none 0 0) (.slice none 0 0) 0 0 0 0
      (((wh.alloc (.cells #[.int .i64 0, .int .i64 0, .int .i64 0, .int .i64 0, .slice none 0 0] 31)).alloc (.cells #[.pointer (some ⟨wh.heap.size, 0, none⟩), .int .i64 0, .int .i64 0] 36)).alloc (.cells #[.pointer (some ⟨wh.heap.size, 0, none⟩), .int .i64 0, .int .i64 0] 36))) := by
    simp only [alloc_size] at hS3 hS4
    exact ⟨Mt.within_zero 0, Int.le_refl _, Int.le_refl _, Int.le_refl _, Int.le_refl _, .inl ⟨rfl, rfl⟩, .inl ⟨rfl, rfl⟩, hS4⟩
  clear hS2 hS3 hS4 hz2
  go_wp2_with fail
  have hT0 := HT0.out
  clear HT0
  generalize (((wh.alloc (.cells #[.int .i64 0, .int .i64 0, .int .i64 0, .int .i64 0, .slice none 0 0] 31)).alloc (.cells #[.pointer (some ⟨wh.heap.size, 0, none⟩), .int .i64 0, .int .i64 0] 36)).alloc (.cells #[.pointer (some ⟨wh.heap.size, 0, none⟩), .int .i64 0, .int .i64 0] 36)) = ws at *
  generalize wh.heap.size + 1 + 1 = y at *
  generalize wh.heap.size + 1 = x at *
  generalize wh.heap.size = n at *
  go_loopw [10] (fun i wr => ∃ (k : Nat) (s : Mt) (v u : Value) (xn xo yn yo : Int), i = .int .i64 k ∧ k ≤ len ∧ PRel w g r c h p d m n x y k s v u xn xo yn yo wr) (fun i _ => len - (intOf i).toNat)
  case atStart => exact ⟨0, _, _, _, _, _, _, _, rfl, Nat.zero_le _, hT0⟩
  case round =>
    clear hT0
    obtain ⟨k, s, v, u, xn, xo, yn, yo, rfl, hk, hT⟩ := hrel
    by_cases hlt : k < len
    · obtain ⟨b0, off, rfl, hops⟩ : ∃ b off, a = some ⟨b, off, none⟩ ∧ ∀ i, i < len → OpAt w b (off + i * 3) (f i) := by
        rcases HS.out with h0 | h
        · omega
        · exact h
      have ho := (hops k hlt).kept hT.st.same
      clear hops
      generalize f k = op at ho
      obtain ⟨other, kind, t⟩ := op
      obtain ⟨o0, o1, o2⟩ := ho
      simp only at o0 o1 o2
      have hi0 : (0 : Int) ≤ (k : Int) := Int.natCast_nonneg _
      have hi1 : (k : Int) < (len : Int) := by omega
      have hkb : (k : Int) ≤ 1048576 := by omega
      have HL : Hid (k < len) := hlt
      have HE : Hid (k ≤ 1048576) := by show k ≤ 1048576; omega
      clear hlt hlen hk
      have hB := hT.st.box #[.bool other, .int .i64 kind, .int .i64 t] 38
      have hP := hT.calm (kept_alloc wr (.cells #[.bool other, .int .i64 kind, .int .i64 t] 38))
      have c0 : (wr.alloc (.cells #[.bool other, .int .i64 kind, .int .i64 t] 38)).cell? ⟨wr.heap.size, 0, none⟩ = some (.bool other) := hB.cell 0 rfl 0
      have c1 : (wr.alloc (.cells #[.bool other, .int .i64 kind, .int .i64 t] 38)).cell? ⟨wr.heap.size, 1, none⟩ = some (.int .i64 kind) := hB.cell 0 rfl 1
      have c2 : (wr.alloc (.cells #[.bool other, .int .i64 kind, .int .i64 t] 38)).cell? ⟨wr.heap.size, 2, none⟩ = some (.int .i64 t) := hB.cell 0 rfl 2
      have HW := hT.wi
      clear hT
      have HX : Hid (PRel w g r c h p d m n x y k s v u xn xo yn yo (wr.alloc (.cells #[.bool other, .int .i64 kind, .int .i64 t] 38))) := hP
      by_cases hkd : kind = 1
      · subst hkd
        cases other
        · skip
          have h1 := begin_one hB HW HE.out t
          go_wp2_with fail
          generalize wr.alloc (.cells #[.bool false, .int .i64 1, .int .i64 t] 38) = W0 at *
          generalize wr.heap.size = B at *
          refine h1.mono ?_
          rintro e w1 ⟨rfl, hS1⟩
          have l2 : w1.cell? ⟨B, 2, none⟩ = some (.int .i64 t) := hS1.cell 0 rfl 2
          have h2 := begin_two hS1 HW HE.out
          clear h1 hB hP c0 c1 c2 hS1
          go_wp2_with fail
          refine h2.mono ?_
          rintro e w2 ⟨rfl, hS2⟩
          have m0 : w2.cell? ⟨B, 0, none⟩ = some (.bool false) := hS2.cell 0 rfl 0
          have m1 : w2.cell? ⟨B, 1, none⟩ = some (.int .i64 1) := hS2.cell 0 rfl 1
          have m2 : w2.cell? ⟨B, 2, none⟩ = some (.int .i64 t) := hS2.cell 0 rfl 2
          have hP : PRel w g r c h p d m n x y (k + 1) (s.start t) v u xn xo yn yo w2 := ⟨HW.start t, HX.out.x0, by have := HX.out.x1; omega, HX.out.y0, by have := HX.out.y1; omega, HX.out.xk, HX.out.yk, hS2.pop⟩
          have hD := begun_x hP (by have := HE.out; omega) false t
          clear h2 hS2 hP
          go_wp2_with fail
          refine hD.mono ?_
          rintro e w3 ⟨rfl, v', u', hP⟩
          clear hD m0 m1 m2 l2 HX
          obtain ⟨s', hs'⟩ : ∃ s', s' = s.start t := ⟨_, rfl⟩
          rw [← hs'] at hP
          clear hs' HW
          have CH : Hid (∀ W, PRel w g r c h p d m n x y (k + 1) s' v' u' xn xo yn yo W → Reads x y n xn xo yn yo s'.dn W) := fun W h => h.reads
          have NX : ∀ W, PRel w g r c h p d m n x y (k + 1) s' v' u' xn xo yn yo W → Calls Try.prog 11 #[.pointer (some ⟨g, 0, none⟩)] W fun e w' => e = .returned (.agg #[.int .i64 xn, .int .i64 xo]) ∧ PRel w g r c h p d m n x y (k + 1) s' v' u' xn xo yn yo w' := fun W h => now_x h
          have NY : ∀ W, PRel w g r c h p d m n x y (k + 1) s' v' u' xn xo yn yo W → Calls Try.prog 11 #[.pointer (some ⟨h, 0, none⟩)] W fun e w' => e = .returned (.agg #[.int .i64 yn, .int .i64 yo]) ∧ PRel w g r c h p d m n x y (k + 1) s' v' u' xn xo yn yo w' := fun W h => now_y h
          have DM : ∀ W, PRel w g r c h p d m n x y (k + 1) s' v' u' xn xo yn yo W → Calls Try.prog 12 #[.pointer (some ⟨m, 0, none⟩)] W fun e w' => e = .returned (.int .i64 s'.dn) ∧ PRel w g r c h p d m n x y (k + 1) s' v' u' xn xo yn yo w' := fun W h => done_m h
          generalize s'.dn = dn at CH DM
          obtain ⟨a1, a2, b1, b2, e2⟩ := CH.out _ hP
          have q1 : (xn == xn) = true := by simp
          have q2 : (xo == xo) = true := by simp
          have q3 : (yn == yn) = true := by simp
          have q4 : (yo == yo) = true := by simp
          have q5 : (dn != dn) = false := by simp
          go_wp2_with fail
          have hH := hP.calm (kept_drew _)
          clear hP
          go_region_held3 (fun W => W.cell? ⟨x, 1, none⟩ = some (.int .i64 xn) ∧ W.cell? ⟨x, 2, none⟩ = some (.int .i64 xo) ∧ W.cell? ⟨y, 1, none⟩ = some (.int .i64 yn) ∧ W.cell? ⟨y, 2, none⟩ = some (.int .i64 yo) ∧ W.cell? ⟨n, 2, none⟩ = some (.int .i64 dn) ∧ PRel w g r c h p d m n x y (k + 1) s' v' u' xn xo yn yo W)
            (first | exact ⟨(CH.out _ hH).a1, (CH.out _ hH).a2, (CH.out _ hH).b1, (CH.out _ hH).b2, (CH.out _ hH).e2, hH⟩)
            (first | (go_at_call_of 11 g; refine (NX _ hH).mono ?_; rintro e w' ⟨rfl, hH⟩) | (go_at_call_of 11 h; refine (NY _ hH).mono ?_; rintro e w' ⟨rfl, hH⟩) | (go_at_call 12; refine (DM _ hH).mono ?_; rintro e w' ⟨rfl, hH⟩))
          go_wp2
          go_roundw
          case rel => exact ⟨k + 1, s', v', u', xn, xo, yn, yo, by go_num, HL.out, hH⟩
          case measure => have := HL.out; simp [intOf]; omega
        · skip
          have h1 := begin_one hB HW HE.out t
          go_wp2_with fail
          generalize wr.alloc (.cells #[.bool true, .int .i64 1, .int .i64 t] 38) = W0 at *
          generalize wr.heap.size = B at *
          refine h1.mono ?_
          rintro e w1 ⟨rfl, hS1⟩
          have l2 : w1.cell? ⟨B, 2, none⟩ = some (.int .i64 t) := hS1.cell 0 rfl 2
          have h2 := begin_two hS1 HW HE.out
          clear h1 hB hP c0 c1 c2 hS1
          go_wp2_with fail
          refine h2.mono ?_
          rintro e w2 ⟨rfl, hS2⟩
          have m0 : w2.cell? ⟨B, 0, none⟩ = some (.bool true) := hS2.cell 0 rfl 0
          have m1 : w2.cell? ⟨B, 1, none⟩ = some (.int .i64 1) := hS2.cell 0 rfl 1
          have m2 : w2.cell? ⟨B, 2, none⟩ = some (.int .i64 t) := hS2.cell 0 rfl 2
          have hP : PRel w g r c h p d m n x y (k + 1) (s.start t) v u xn xo yn yo w2 := ⟨HW.start t, HX.out.x0, by have := HX.out.x1; omega, HX.out.y0, by have := HX.out.y1; omega, HX.out.xk, HX.out.yk, hS2.pop⟩
          have hD := begun_y hP (by have := HE.out; omega) true t
          clear h2 hS2 hP
          go_wp2_with fail
          refine hD.mono ?_
          rintro e w3 ⟨rfl, v', u', hP⟩
          clear hD m0 m1 m2 l2 HX
          obtain ⟨s', hs'⟩ : ∃ s', s' = s.start t := ⟨_, rfl⟩
          rw [← hs'] at hP
          clear hs' HW
          have CH : Hid (∀ W, PRel w g r c h p d m n x y (k + 1) s' v' u' xn xo yn yo W → Reads x y n xn xo yn yo s'.dn W) := fun W h => h.reads
          have NX : ∀ W, PRel w g r c h p d m n x y (k + 1) s' v' u' xn xo yn yo W → Calls Try.prog 11 #[.pointer (some ⟨g, 0, none⟩)] W fun e w' => e = .returned (.agg #[.int .i64 xn, .int .i64 xo]) ∧ PRel w g r c h p d m n x y (k + 1) s' v' u' xn xo yn yo w' := fun W h => now_x h
          have NY : ∀ W, PRel w g r c h p d m n x y (k + 1) s' v' u' xn xo yn yo W → Calls Try.prog 11 #[.pointer (some ⟨h, 0, none⟩)] W fun e w' => e = .returned (.agg #[.int .i64 yn, .int .i64 yo]) ∧ PRel w g r c h p d m n x y (k + 1) s' v' u' xn xo yn yo w' := fun W h => now_y h
          have DM : ∀ W, PRel w g r c h p d m n x y (k + 1) s' v' u' xn xo yn yo W → Calls Try.prog 12 #[.pointer (some ⟨m, 0, none⟩)] W fun e w' => e = .returned (.int .i64 s'.dn) ∧ PRel w g r c h p d m n x y (k + 1) s' v' u' xn xo yn yo w' := fun W h => done_m h
          generalize s'.dn = dn at CH DM
          obtain ⟨a1, a2, b1, b2, e2⟩ := CH.out _ hP
          have q1 : (xn == xn) = true := by simp
          have q2 : (xo == xo) = true := by simp
          have q3 : (yn == yn) = true := by simp
          have q4 : (yo == yo) = true := by simp
          have q5 : (dn != dn) = false := by simp
          go_wp2_with fail
          have hH := hP.calm (kept_drew _)
          clear hP
          go_region_held3 (fun W => W.cell? ⟨x, 1, none⟩ = some (.int .i64 xn) ∧ W.cell? ⟨x, 2, none⟩ = some (.int .i64 xo) ∧ W.cell? ⟨y, 1, none⟩ = some (.int .i64 yn) ∧ W.cell? ⟨y, 2, none⟩ = some (.int .i64 yo) ∧ W.cell? ⟨n, 2, none⟩ = some (.int .i64 dn) ∧ PRel w g r c h p d m n x y (k + 1) s' v' u' xn xo yn yo W)
            (first | exact ⟨(CH.out _ hH).a1, (CH.out _ hH).a2, (CH.out _ hH).b1, (CH.out _ hH).b2, (CH.out _ hH).e2, hH⟩)
            (first | (go_at_call_of 11 g; refine (NX _ hH).mono ?_; rintro e w' ⟨rfl, hH⟩) | (go_at_call_of 11 h; refine (NY _ hH).mono ?_; rintro e w' ⟨rfl, hH⟩) | (go_at_call 12; refine (DM _ hH).mono ?_; rintro e w' ⟨rfl, hH⟩))
          go_wp2
          go_roundw
          case rel => exact ⟨k + 1, s', v', u', xn, xo, yn, yo, by go_num, HL.out, hH⟩
          case measure => have := HL.out; simp [intOf]; omega
      · have ek : (kind == 1) = false := by simpa using hkd
        clear hkd
        cases other
        · skip
          have hD := does_x hP HE.out false kind t
          go_wp2_with fail
          generalize wr.alloc (.cells #[.bool false, .int .i64 kind, .int .i64 t] 38) = W0 at *
          generalize wr.heap.size = B at *
          refine hD.mono ?_
          clear hP
          rintro e w3 ⟨rfl, s', v', u', n', o', hP⟩
          clear hD HW hB c0 c1 c2 HX
          have CH : Hid (∀ W, PRel w g r c h p d m n x y (k + 1) s' v' u' n' o' yn yo W → Reads x y n n' o' yn yo s'.dn W) := fun W h => h.reads
          have NX : ∀ W, PRel w g r c h p d m n x y (k + 1) s' v' u' n' o' yn yo W → Calls Try.prog 11 #[.pointer (some ⟨g, 0, none⟩)] W fun e w' => e = .returned (.agg #[.int .i64 n', .int .i64 o']) ∧ PRel w g r c h p d m n x y (k + 1) s' v' u' n' o' yn yo w' := fun W h => now_x h
          have NY : ∀ W, PRel w g r c h p d m n x y (k + 1) s' v' u' n' o' yn yo W → Calls Try.prog 11 #[.pointer (some ⟨h, 0, none⟩)] W fun e w' => e = .returned (.agg #[.int .i64 yn, .int .i64 yo]) ∧ PRel w g r c h p d m n x y (k + 1) s' v' u' n' o' yn yo w' := fun W h => now_y h
          have DM : ∀ W, PRel w g r c h p d m n x y (k + 1) s' v' u' n' o' yn yo W → Calls Try.prog 12 #[.pointer (some ⟨m, 0, none⟩)] W fun e w' => e = .returned (.int .i64 s'.dn) ∧ PRel w g r c h p d m n x y (k + 1) s' v' u' n' o' yn yo w' := fun W h => done_m h
          generalize s'.dn = dn at CH DM
          obtain ⟨a1, a2, b1, b2, e2⟩ := CH.out _ hP
          have q1 : (n' == n') = true := by simp
          have q2 : (o' == o') = true := by simp
          have q3 : (yn == yn) = true := by simp
          have q4 : (yo == yo) = true := by simp
          have q5 : (dn != dn) = false := by simp
          go_wp2_with fail
          have hH := hP.calm (kept_drew _)
          clear hP
          go_region_held3 (fun W => W.cell? ⟨x, 1, none⟩ = some (.int .i64 n') ∧ W.cell? ⟨x, 2, none⟩ = some (.int .i64 o') ∧ W.cell? ⟨y, 1, none⟩ = some (.int .i64 yn) ∧ W.cell? ⟨y, 2, none⟩ = some (.int .i64 yo) ∧ W.cell? ⟨n, 2, none⟩ = some (.int .i64 dn) ∧ PRel w g r c h p d m n x y (k + 1) s' v' u' n' o' yn yo W)
            (first | exact ⟨(CH.out _ hH).a1, (CH.out _ hH).a2, (CH.out _ hH).b1, (CH.out _ hH).b2, (CH.out _ hH).e2, hH⟩)
            (first | (go_at_call_of 11 g; refine (NX _ hH).mono ?_; rintro e w' ⟨rfl, hH⟩) | (go_at_call_of 11 h; refine (NY _ hH).mono ?_; rintro e w' ⟨rfl, hH⟩) | (go_at_call 12; refine (DM _ hH).mono ?_; rintro e w' ⟨rfl, hH⟩))
          go_wp2
          go_roundw
          case rel => exact ⟨k + 1, s', v', u', n', o', yn, yo, by go_num, HL.out, hH⟩
          case measure => have := HL.out; simp [intOf]; omega
        · skip
          have hD := does_y hP HE.out true kind t
          go_wp2_with fail
          generalize wr.alloc (.cells #[.bool true, .int .i64 kind, .int .i64 t] 38) = W0 at *
          generalize wr.heap.size = B at *
          refine hD.mono ?_
          clear hP
          rintro e w3 ⟨rfl, s', v', u', n', o', hP⟩
          clear hD HW hB c0 c1 c2 HX
          have CH : Hid (∀ W, PRel w g r c h p d m n x y (k + 1) s' v' u' xn xo n' o' W → Reads x y n xn xo n' o' s'.dn W) := fun W h => h.reads
          have NX : ∀ W, PRel w g r c h p d m n x y (k + 1) s' v' u' xn xo n' o' W → Calls Try.prog 11 #[.pointer (some ⟨g, 0, none⟩)] W fun e w' => e = .returned (.agg #[.int .i64 xn, .int .i64 xo]) ∧ PRel w g r c h p d m n x y (k + 1) s' v' u' xn xo n' o' w' := fun W h => now_x h
          have NY : ∀ W, PRel w g r c h p d m n x y (k + 1) s' v' u' xn xo n' o' W → Calls Try.prog 11 #[.pointer (some ⟨h, 0, none⟩)] W fun e w' => e = .returned (.agg #[.int .i64 n', .int .i64 o']) ∧ PRel w g r c h p d m n x y (k + 1) s' v' u' xn xo n' o' w' := fun W h => now_y h
          have DM : ∀ W, PRel w g r c h p d m n x y (k + 1) s' v' u' xn xo n' o' W → Calls Try.prog 12 #[.pointer (some ⟨m, 0, none⟩)] W fun e w' => e = .returned (.int .i64 s'.dn) ∧ PRel w g r c h p d m n x y (k + 1) s' v' u' xn xo n' o' w' := fun W h => done_m h
          generalize s'.dn = dn at CH DM
          obtain ⟨a1, a2, b1, b2, e2⟩ := CH.out _ hP
          have q1 : (xn == xn) = true := by simp
          have q2 : (xo == xo) = true := by simp
          have q3 : (n' == n') = true := by simp
          have q4 : (o' == o') = true := by simp
          have q5 : (dn != dn) = false := by simp
          go_wp2_with fail
          have hH := hP.calm (kept_drew _)
          clear hP
          go_region_held3 (fun W => W.cell? ⟨x, 1, none⟩ = some (.int .i64 xn) ∧ W.cell? ⟨x, 2, none⟩ = some (.int .i64 xo) ∧ W.cell? ⟨y, 1, none⟩ = some (.int .i64 n') ∧ W.cell? ⟨y, 2, none⟩ = some (.int .i64 o') ∧ W.cell? ⟨n, 2, none⟩ = some (.int .i64 dn) ∧ PRel w g r c h p d m n x y (k + 1) s' v' u' xn xo n' o' W)
            (first | exact ⟨(CH.out _ hH).a1, (CH.out _ hH).a2, (CH.out _ hH).b1, (CH.out _ hH).b2, (CH.out _ hH).e2, hH⟩)
            (first | (go_at_call_of 11 g; refine (NX _ hH).mono ?_; rintro e w' ⟨rfl, hH⟩) | (go_at_call_of 11 h; refine (NY _ hH).mono ?_; rintro e w' ⟨rfl, hH⟩) | (go_at_call 12; refine (DM _ hH).mono ?_; rintro e w' ⟨rfl, hH⟩))
          go_wp2
          go_roundw
          case rel => exact ⟨k + 1, s', v', u', xn, xo, n', o', by go_num, HL.out, hH⟩
          case measure => have := HL.out; simp [intOf]; omega
    · have hke : ¬ (k : Int) < (len : Int) := by omega
      have HK : Hid (k ≤ 1048576) := by show k ≤ 1048576; omega
      have hkk := hT.st.same
      have LM : ∀ W, PRel w g r c h p d m n x y k s v u xn xo yn yo W → Calls Try.prog 14 #[.pointer (some ⟨m, 0, none⟩)] W fun e w' => ∃ v', e = .returned v' ∧ w'.ownsRow 0 60 6 v' s.l.length (logCells s.l) ∧ PRel w g r c h p d m n x y k s v u xn xo yn yo w' := fun W h => log_m h HK.out
      have SM : ∀ W v', PRel w g r c h p d m n x y k s v u xn xo yn yo W → W.ownsRow 0 60 6 v' s.l.length (logCells s.l) → Calls Try.prog 13 #[v', u] W fun e w' => e = .returned (.bool true) ∧ PRel w g r c h p d m n x y k s v u xn xo yn yo w' := fun W v' h ho => same_m h HK.out ho
      have CL : Hid (∀ W, PRel w g r c h p d m n x y k s v u xn xo yn yo W → W.cell? ⟨n, 4, none⟩ = some u) := fun W h => h.log
      have l4 := CL.out _ hT
      clear hlt hk HS hlen
      go_wp2_with fail
      have hH := hT.calm (kept_drew _)
      clear hT
      go_region_held3 (fun W => W.cell? ⟨n, 4, none⟩ = some u ∧ PRel w g r c h p d m n x y k s v u xn xo yn yo W)
        (first | exact ⟨CL.out _ hH, hH⟩)
        (first | (go_at_call 14; refine (LM _ hH).mono ?_; rintro e w' ⟨v', rfl, hL, hH⟩) | (go_at_call_of 13 v'; refine (SM _ _ hH hL).mono ?_; rintro e w' ⟨rfl, hH⟩))
      go_wp2
      go_ret
      exact ⟨rfl, hH.st.same⟩
end Go.Proofs.Ytflcmnkaponehaa
