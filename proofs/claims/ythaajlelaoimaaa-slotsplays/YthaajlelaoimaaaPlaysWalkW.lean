/- SlotsPlays's walk: two tables of one meter, every call in every order, against the document's. -/
import Derived.Test.YthaajlelaoimaaaPlaysEndW
import Derived.Deep.RegionHeld3
import Derived.Maps.AppendAt
namespace Go.Proofs.Ythaajlelaoimaaa
open Go.RowKit
set_option linter.unusedVariables false
set_option linter.unusedSimpArgs false
attribute [local go_sem ↓] Go.wp_at_zero Go.wp_at_succ

set_option maxRecDepth 100000 in
theorem buildSl (W : World) : (Instr.buildSlice 43 1 #[(0, .agg #[.int .i64 0, .int .i64 0, .int .i64 0, .int .i64 0, .bool false, .int .i64 0, .int .u64 0, .int .u64 0])]).run Try.prog W = .ok (.slice (some ⟨W.heap.size, 0, none⟩) 1 1) (W.alloc (.cells #[.int .i64 0, .int .i64 0, .int .i64 0, .int .i64 0, .bool false, .int .i64 0, .int .u64 0, .int .u64 0] 53)) := by kernel_rfl
/-- A list of one slot that is nothing yet. -/
theorem wpList_buildSl {ops : Array Oper} {rest : List Oper} {o : Oper} {a : Act} {Q : Exit → Act → World → Prop} {w : World} (hgd : o.guard = none) (x : Operand) (ho : o.op = .buildSlice 43 1 #[(0, x)]) (hx : a.eval x = .agg #[.int .i64 0, .int .i64 0, .int .i64 0, .int .i64 0, .bool false, .int .i64 0, .int .u64 0, .int .u64 0])
    (h : wpList Try.prog ops Q rest (a.put o.dst (.slice (some ⟨w.heap.size, 0, none⟩) 1 1)) (w.alloc (.cells #[.int .i64 0, .int .i64 0, .int .i64 0, .int .i64 0, .bool false, .int .i64 0, .int .u64 0, .int .u64 0] 53))) : wpList Try.prog ops Q (o :: rest) a w := by
  refine wpList_plain hgd fun K hK => ?_
  unfold Oper.wp execOp
  simp only [ho, Sem.run_bind, Sem.run_pure, Result.andThen_ok, List.map_toArray, List.map_cons, List.map_nil, hx, buildSl]
  exact hK _ _ h


set_option maxRecDepth 100000 in
set_option maxHeartbeats 8000000 in
theorem plays_walk (one two : Int) (a : Option Addr) (len cap : Nat) (ops : Nat → OpD) (w : World) (hs : ScriptAt w a len ops) (hlen : len ≤ 2932031007317) :
    Calls Try.prog 3 #[.int .i64 one, .int .i64 two, .slice a len cap] w fun e w' => e = .returned (.bool true) ∧ Kept (fun _ => False) w w' := by
  have HS : Hid (ScriptAt w a len ops) := hs
  clear hs
  go_enter Try.func3, Try.ntmps3
  go_wp2_with fail
  refine (awake_any _).mono ?_
  rintro e wa ⟨rfl, hka⟩
  have hA := (St.nil w).calm hka
  have hN := newMeter_st hA
  clear hka
  go_wp2_with fail
  refine hN.mono ?_
  rintro e wm ⟨rfl, hM, hz⟩
  clear hz hN hA
  generalize wa.heap.size = m at *
  have hS0 : St w (meterI 29 (some wm.heap.size) Mt.zero (.slice none 0 0) :: _) (wm.alloc (.cells #[.int .i64 0, .int .i64 0, .int .i64 0, .int .i64 0, .slice none 0 0] 29)) :=
    hM.push (meterI 29 (some wm.heap.size) Mt.zero (.slice none 0 0)) (kept_alloc wm _) ⟨heap_alloc_new wm _, World.ownsRow_nil _ _ _ _, by simp [Value.ownBlock]⟩ (by simp [meterI, Value.ownBlock]) (by simp [meterI, Value.ownBlock])
  clear hM
  by_cases h1 : one < 1 ∨ 8 < one
  · by_cases h2 : two < 1 ∨ 8 < two
    · as_aux_lemma =>
        go_wp2_with fail
        generalize wm.alloc (.cells #[.int .i64 0, .int .i64 0, .int .i64 0, .int .i64 0, .slice none 0 0] 29) = W0 at *
        generalize wm.heap.size = n at *
        refine (tabNew_out _ one h1 _).mono ?_
        rintro e w1 ⟨rfl, hw1⟩
        have hS1 := hS0
        rw [← hw1] at hS1
        clear hS0 hw1
        go_wp2_with fail
        refine (tabNew_out _ two h2 _).mono ?_
        rintro e w2 ⟨rfl, hw2⟩
        have hS2 := hS1
        rw [← hw2] at hS2
        clear hS1 hw2
        go_wp2_with fail
        refine (refNew_out _ one h1 _).mono ?_
        rintro e w3 ⟨rfl, hw3⟩
        have hS3 := hS2
        rw [← hw3] at hS3
        clear hS2 hw3
        go_wp2_with fail
        refine (refNew_out _ two h2 _).mono ?_
        rintro e w4 ⟨rfl, hw4⟩
        have hS4 := hS3
        rw [← hw4] at hS4
        clear hS3 hw4
        have HK := hS4.same
        clear hS4
        go_wp2
        go_ret
        exact ⟨rfl, HK⟩
    · obtain ⟨nb, rfl⟩ : ∃ nb : Nat, two = nb := ⟨two.toNat, by omega⟩
      have b1 : 1 ≤ nb := by omega
      have b8 : nb ≤ 8 := by omega
      clear h2
      as_aux_lemma =>
        go_wp2_with fail
        generalize wm.alloc (.cells #[.int .i64 0, .int .i64 0, .int .i64 0, .int .i64 0, .slice none 0 0] 29) = W0 at *
        generalize wm.heap.size = n at *
        refine (tabNew_out _ one h1 _).mono ?_
        rintro e w1 ⟨rfl, hw1⟩
        have hS1 := hS0
        rw [← hw1] at hS1
        clear hS0 hw1
        go_wp2_with fail
        refine (tabNew_st hS1 (some m) nb b1 b8).mono ?_
        rintro e w2 ⟨tb, rb, cb, qb, fb, rfl, hS2⟩
        clear hS1
        go_wp2_with fail
        refine (refNew_out _ one h1 _).mono ?_
        rintro e w3 ⟨rfl, hw3⟩
        have hS3 := hS2
        rw [← hw3] at hS3
        clear hS2 hw3
        go_wp2_with fail
        refine (refNew_st hS3 n nb b1 b8).mono ?_
        rintro e w4 ⟨yb, gb, rfl, hS4⟩
        clear hS3
        have HK := hS4.same
        clear hS4
        go_wp2
        go_ret
        exact ⟨rfl, HK⟩
  · obtain ⟨na, rfl⟩ : ∃ na : Nat, one = na := ⟨one.toNat, by omega⟩
    have a1 : 1 ≤ na := by omega
    have a8 : na ≤ 8 := by omega
    clear h1
    by_cases h2 : two < 1 ∨ 8 < two
    · as_aux_lemma =>
        have k1 := tabNew_st hS0 (some m) na a1 a8
        go_wp2_with fail
        generalize wm.alloc (.cells #[.int .i64 0, .int .i64 0, .int .i64 0, .int .i64 0, .slice none 0 0] 29) = W0 at *
        generalize wm.heap.size = n at *
        refine k1.mono ?_
        rintro e w1 ⟨ta, ra, ca, qa, fa, rfl, hS1⟩
        clear k1 hS0
        go_wp2_with fail
        refine (tabNew_out _ two h2 _).mono ?_
        rintro e w2 ⟨rfl, hw2⟩
        have hS2 := hS1
        rw [← hw2] at hS2
        clear hS1 hw2
        go_wp2_with fail
        refine (refNew_st hS2 n na a1 a8).mono ?_
        rintro e w3 ⟨ya, ga, rfl, hS3⟩
        clear hS2
        go_wp2_with fail
        refine (refNew_out _ two h2 _).mono ?_
        rintro e w4 ⟨rfl, hw4⟩
        have hS4 := hS3
        rw [← hw4] at hS4
        clear hS3 hw4
        have HK := hS4.same
        clear hS4
        go_wp2
        go_ret
        exact ⟨rfl, HK⟩
    · obtain ⟨nb, rfl⟩ : ∃ nb : Nat, two = nb := ⟨two.toNat, by omega⟩
      have b1 : 1 ≤ nb := by omega
      have b8 : nb ≤ 8 := by omega
      clear h2
      have k1 := tabNew_st hS0 (some m) na a1 a8
      go_wp2_with fail
      generalize wm.alloc (.cells #[.int .i64 0, .int .i64 0, .int .i64 0, .int .i64 0, .slice none 0 0] 29) = W0 at *
      generalize wm.heap.size = n at *
      refine k1.mono ?_
      rintro e w1 ⟨ta, ra, ca, qa, fa, rfl, hS1⟩
      clear k1 hS0
      go_wp2_with fail
      refine (tabNew_st hS1 (some m) nb b1 b8).mono ?_
      rintro e w2 ⟨tb, rb, cb, qb, fb, rfl, hS2⟩
      clear hS1
      go_wp2_with fail
      refine (refNew_st hS2 n na a1 a8).mono ?_
      rintro e w3 ⟨ya, ga, rfl, hS3⟩
      clear hS2
      go_wp2_with fail
      refine (refNew_st hS3 n nb b1 b8).mono ?_
      rintro e w4 ⟨yb, gb, rfl, hS4⟩
      clear hS3
      have hT0 : PRel w ⟨ta, ra, ca, qa, fa, ya, ga⟩ ⟨tb, rb, cb, qb, fb, yb, gb⟩ m n na nb 0 Mt.zero (.slice none 0 0) (.slice none 0 0) (List.replicate na Hd.zero) (List.replicate (na * 2) 0) (List.replicate nb Hd.zero) (List.replicate (nb * 2) 0) w4 := ⟨Mt.within_zero _, HsOk.rep _ _, HsOk.rep _ _, by simp, by simp, by simp, by simp, a1, a8, b1, b8, hS4⟩
      clear hS4
      go_wp2_with fail
      go_loopw [18] (fun i wr => ∃ (k : Nat) (s : Mt) (v u : Value) (ha : List Hd) (wa : List Int) (hb : List Hd) (wb : List Int), i = .int .i64 k ∧ k ≤ len ∧ PRel w ⟨ta, ra, ca, qa, fa, ya, ga⟩ ⟨tb, rb, cb, qb, fb, yb, gb⟩ m n na nb k s v u ha wa hb wb  wr) (fun i _ => len - (intOf i).toNat)
      case atStart => exact ⟨0, _, _, _, _, _, _, _, rfl, Nat.zero_le _, hT0⟩
      case round =>
        clear hT0
        obtain ⟨k, s, v, u, ha, wa, hb, wb, rfl, hk, hT⟩ := hrel
        by_cases hlt : k < len
        · obtain ⟨b0, off, rfl, hops⟩ : ∃ b off, a = some ⟨b, off, none⟩ ∧ ∀ i, i < len → OpAt w b (off + i * 6) (ops i) := by
            rcases HS.out with h0 | h
            · omega
            · exact h
          have ho := (hops k hlt).kept hT.st.same
          clear hops
          generalize ops k = op at ho
          obtain ⟨oo, kind, os, og, on, ox⟩ := op
          obtain ⟨o0, o1, o2, o3, o4, o5⟩ := ho
          simp only at o0 o1 o2 o3 o4 o5
          have hi0 : (0 : Int) ≤ (k : Int) := Int.natCast_nonneg _
          have hi1 : (k : Int) < (len : Int) := by omega
          have hkb : (k : Int) ≤ 2932031007317 := by omega
          have HE : Hid (k ≤ 2932031007317) := by show k ≤ 2932031007317; omega
          have HL : Hid (k + 1 ≤ len) := hlt
          have HW : Hid (s.within k) := hT.wi
          have HP : Hid (PRel w ⟨ta, ra, ca, qa, fa, ya, ga⟩ ⟨tb, rb, cb, qb, fb, yb, gb⟩ m n na nb k s v u ha wa hb wb  wr) := hT
          have hB := hT.st.box #[.bool oo, .int .i64 kind, .int .i64 os, .int .i64 og, .int .i64 on, .int .u64 ox] 39
          have c0 : (wr.alloc (.cells #[.bool oo, .int .i64 kind, .int .i64 os, .int .i64 og, .int .i64 on, .int .u64 ox] 39)).cell? ⟨wr.heap.size, 0, none⟩ = some (.bool oo) := hB.cell 0 rfl 0
          have c1 : (wr.alloc (.cells #[.bool oo, .int .i64 kind, .int .i64 os, .int .i64 og, .int .i64 on, .int .u64 ox] 39)).cell? ⟨wr.heap.size, 1, none⟩ = some (.int .i64 kind) := hB.cell 0 rfl 1
          have c2 : (wr.alloc (.cells #[.bool oo, .int .i64 kind, .int .i64 os, .int .i64 og, .int .i64 on, .int .u64 ox] 39)).cell? ⟨wr.heap.size, 2, none⟩ = some (.int .i64 os) := hB.cell 0 rfl 2
          have c3 : (wr.alloc (.cells #[.bool oo, .int .i64 kind, .int .i64 os, .int .i64 og, .int .i64 on, .int .u64 ox] 39)).cell? ⟨wr.heap.size, 3, none⟩ = some (.int .i64 og) := hB.cell 0 rfl 3
          have c4 : (wr.alloc (.cells #[.bool oo, .int .i64 kind, .int .i64 os, .int .i64 og, .int .i64 on, .int .u64 ox] 39)).cell? ⟨wr.heap.size, 4, none⟩ = some (.int .i64 on) := hB.cell 0 rfl 4
          have c5 : (wr.alloc (.cells #[.bool oo, .int .i64 kind, .int .i64 os, .int .i64 og, .int .i64 on, .int .u64 ox] 39)).cell? ⟨wr.heap.size, 5, none⟩ = some (.int .u64 ox) := hB.cell 0 rfl 5
          clear hT hlt
          by_cases hkd : kind = 1
          · subst hkd
            cases oo
            · as_aux_lemma =>
                have h1 := begin_one hB HW.out HE.out on
                go_wp2_with fail
                generalize wr.alloc (.cells #[.bool false, .int .i64 1, .int .i64 os, .int .i64 og, .int .i64 on, .int .u64 ox] 39) = W0 at *
                generalize wr.heap.size = X at *
                refine h1.mono ?_
                rintro e w1 ⟨rfl, hS1⟩
                have l4 : w1.cell? ⟨X, 4, none⟩ = some (.int .i64 on) := hS1.cell 0 rfl 4
                have h2 := begin_two (A := ⟨ta, ra, ca, qa, fa, ya, ga⟩) (B := ⟨tb, rb, cb, qb, fb, yb, gb⟩) hS1 HW.out HE.out
                clear h1 hB hS1 c0 c1 c2 c3 c4 c5
                go_wp2_with fail
                refine h2.mono ?_
                rintro e w2 ⟨rfl, hS2⟩
                have m0 : w2.cell? ⟨X, 0, none⟩ = some (.bool false) := hS2.cell 0 rfl 0
                have m1 : w2.cell? ⟨X, 1, none⟩ = some (.int .i64 1) := hS2.cell 0 rfl 1
                have m2 : w2.cell? ⟨X, 2, none⟩ = some (.int .i64 os) := hS2.cell 0 rfl 2
                have m3 : w2.cell? ⟨X, 3, none⟩ = some (.int .i64 og) := hS2.cell 0 rfl 3
                have m4 : w2.cell? ⟨X, 4, none⟩ = some (.int .i64 on) := hS2.cell 0 rfl 4
                have m5 : w2.cell? ⟨X, 5, none⟩ = some (.int .u64 ox) := hS2.cell 0 rfl 5
                have hD := begun_a HP.out (HW.out.start on) hS2.pop false os og on ox
                clear h2 hS2 HP
                go_wp2_with fail
                refine hD.mono ?_
                clear m0 m1 m2 m3 m4 m5 l4

                rintro e w3 ⟨rfl, s', v', u', ha', wa', hP⟩
                clear hD HW
                have CH : Hid (∀ W, PRel w ⟨ta, ra, ca, qa, fa, ya, ga⟩ ⟨tb, rb, cb, qb, fb, yb, gb⟩ m n na nb (k + 1) s' v' u' ha' wa' hb wb W → W.cell? ⟨n, 2, none⟩ = some (.int .i64 s'.dn)) := fun W h => h.done
                have DM : ∀ W, PRel w ⟨ta, ra, ca, qa, fa, ya, ga⟩ ⟨tb, rb, cb, qb, fb, yb, gb⟩ m n na nb (k + 1) s' v' u' ha' wa' hb wb W → Calls Try.prog 15 #[.pointer (some ⟨m, 0, none⟩)] W fun e w' => e = .returned (.int .i64 s'.dn) ∧ PRel w ⟨ta, ra, ca, qa, fa, ya, ga⟩ ⟨tb, rb, cb, qb, fb, yb, gb⟩ m n na nb (k + 1) s' v' u' ha' wa' hb wb w' := fun W h => done_m h
                generalize s'.dn = dn at CH DM
                have e2 := CH.out _ hP
                have q5 : (dn != dn) = false := by simp
                go_wp2_with fail
                have hH := hP.calm (kept_drew _)
                clear hP
                go_region_held3 (fun W => W.cell? ⟨n, 2, none⟩ = some (.int .i64 dn) ∧ PRel w ⟨ta, ra, ca, qa, fa, ya, ga⟩ ⟨tb, rb, cb, qb, fb, yb, gb⟩ m n na nb (k + 1) s' v' u' ha' wa' hb wb W)
                  (first | exact ⟨CH.out _ hH, hH⟩)
                  (first | (go_at_call 15; refine (DM _ hH).mono ?_; rintro e w' ⟨rfl, hH⟩))
                go_wp2
                go_roundw
                case rel => exact ⟨k + 1, s', v', u', ha', wa', hb, wb, by go_num, HL.out, hH⟩
                case measure => have := HL.out; simp [intOf]; omega
            · as_aux_lemma =>
                have h1 := begin_one hB HW.out HE.out on
                go_wp2_with fail
                generalize wr.alloc (.cells #[.bool true, .int .i64 1, .int .i64 os, .int .i64 og, .int .i64 on, .int .u64 ox] 39) = W0 at *
                generalize wr.heap.size = X at *
                refine h1.mono ?_
                rintro e w1 ⟨rfl, hS1⟩
                have l4 : w1.cell? ⟨X, 4, none⟩ = some (.int .i64 on) := hS1.cell 0 rfl 4
                have h2 := begin_two (A := ⟨ta, ra, ca, qa, fa, ya, ga⟩) (B := ⟨tb, rb, cb, qb, fb, yb, gb⟩) hS1 HW.out HE.out
                clear h1 hB hS1 c0 c1 c2 c3 c4 c5
                go_wp2_with fail
                refine h2.mono ?_
                rintro e w2 ⟨rfl, hS2⟩
                have m0 : w2.cell? ⟨X, 0, none⟩ = some (.bool true) := hS2.cell 0 rfl 0
                have m1 : w2.cell? ⟨X, 1, none⟩ = some (.int .i64 1) := hS2.cell 0 rfl 1
                have m2 : w2.cell? ⟨X, 2, none⟩ = some (.int .i64 os) := hS2.cell 0 rfl 2
                have m3 : w2.cell? ⟨X, 3, none⟩ = some (.int .i64 og) := hS2.cell 0 rfl 3
                have m4 : w2.cell? ⟨X, 4, none⟩ = some (.int .i64 on) := hS2.cell 0 rfl 4
                have m5 : w2.cell? ⟨X, 5, none⟩ = some (.int .u64 ox) := hS2.cell 0 rfl 5
                have hD := begun_b HP.out (HW.out.start on) hS2.pop true os og on ox
                clear h2 hS2 HP
                go_wp2_with fail
                refine hD.mono ?_
                clear m0 m1 m2 m3 m4 m5 l4

                rintro e w3 ⟨rfl, s', v', u', hb', wb', hP⟩
                clear hD HW
                have CH : Hid (∀ W, PRel w ⟨ta, ra, ca, qa, fa, ya, ga⟩ ⟨tb, rb, cb, qb, fb, yb, gb⟩ m n na nb (k + 1) s' v' u' ha wa hb' wb' W → W.cell? ⟨n, 2, none⟩ = some (.int .i64 s'.dn)) := fun W h => h.done
                have DM : ∀ W, PRel w ⟨ta, ra, ca, qa, fa, ya, ga⟩ ⟨tb, rb, cb, qb, fb, yb, gb⟩ m n na nb (k + 1) s' v' u' ha wa hb' wb' W → Calls Try.prog 15 #[.pointer (some ⟨m, 0, none⟩)] W fun e w' => e = .returned (.int .i64 s'.dn) ∧ PRel w ⟨ta, ra, ca, qa, fa, ya, ga⟩ ⟨tb, rb, cb, qb, fb, yb, gb⟩ m n na nb (k + 1) s' v' u' ha wa hb' wb' w' := fun W h => done_m h
                generalize s'.dn = dn at CH DM
                have e2 := CH.out _ hP
                have q5 : (dn != dn) = false := by simp
                go_wp2_with fail
                have hH := hP.calm (kept_drew _)
                clear hP
                go_region_held3 (fun W => W.cell? ⟨n, 2, none⟩ = some (.int .i64 dn) ∧ PRel w ⟨ta, ra, ca, qa, fa, ya, ga⟩ ⟨tb, rb, cb, qb, fb, yb, gb⟩ m n na nb (k + 1) s' v' u' ha wa hb' wb' W)
                  (first | exact ⟨CH.out _ hH, hH⟩)
                  (first | (go_at_call 15; refine (DM _ hH).mono ?_; rintro e w' ⟨rfl, hH⟩))
                go_wp2
                go_roundw
                case rel => exact ⟨k + 1, s', v', u', ha, wa, hb', wb', by go_num, HL.out, hH⟩
                case measure => have := HL.out; simp [intOf]; omega
          · have ek : (kind == 1) = false := by simpa using hkd
            clear hkd
            cases oo
            · as_aux_lemma =>
                have hD := does_a HP.out HE.out (HP.out.st.alloc (.cells #[.bool false, .int .i64 kind, .int .i64 os, .int .i64 og, .int .i64 on, .int .u64 ox] 39)) false kind os og on ox
                clear HP hB
                go_wp2_with fail
                generalize wr.alloc (.cells #[.bool false, .int .i64 kind, .int .i64 os, .int .i64 og, .int .i64 on, .int .u64 ox] 39) = W0 at *
                generalize wr.heap.size = X at *
                refine hD.mono ?_
                clear c0 c1 c2 c3 c4 c5

                rintro e w3 ⟨rfl, s', v', u', ha', wa', hP⟩
                clear hD HW
                have CH : Hid (∀ W, PRel w ⟨ta, ra, ca, qa, fa, ya, ga⟩ ⟨tb, rb, cb, qb, fb, yb, gb⟩ m n na nb (k + 1) s' v' u' ha' wa' hb wb W → W.cell? ⟨n, 2, none⟩ = some (.int .i64 s'.dn)) := fun W h => h.done
                have DM : ∀ W, PRel w ⟨ta, ra, ca, qa, fa, ya, ga⟩ ⟨tb, rb, cb, qb, fb, yb, gb⟩ m n na nb (k + 1) s' v' u' ha' wa' hb wb W → Calls Try.prog 15 #[.pointer (some ⟨m, 0, none⟩)] W fun e w' => e = .returned (.int .i64 s'.dn) ∧ PRel w ⟨ta, ra, ca, qa, fa, ya, ga⟩ ⟨tb, rb, cb, qb, fb, yb, gb⟩ m n na nb (k + 1) s' v' u' ha' wa' hb wb w' := fun W h => done_m h
                generalize s'.dn = dn at CH DM
                have e2 := CH.out _ hP
                have q5 : (dn != dn) = false := by simp
                go_wp2_with fail
                have hH := hP.calm (kept_drew _)
                clear hP
                go_region_held3 (fun W => W.cell? ⟨n, 2, none⟩ = some (.int .i64 dn) ∧ PRel w ⟨ta, ra, ca, qa, fa, ya, ga⟩ ⟨tb, rb, cb, qb, fb, yb, gb⟩ m n na nb (k + 1) s' v' u' ha' wa' hb wb W)
                  (first | exact ⟨CH.out _ hH, hH⟩)
                  (first | (go_at_call 15; refine (DM _ hH).mono ?_; rintro e w' ⟨rfl, hH⟩))
                go_wp2
                go_roundw
                case rel => exact ⟨k + 1, s', v', u', ha', wa', hb, wb, by go_num, HL.out, hH⟩
                case measure => have := HL.out; simp [intOf]; omega
            · as_aux_lemma =>
                have hD := does_b HP.out HE.out (HP.out.st.alloc (.cells #[.bool true, .int .i64 kind, .int .i64 os, .int .i64 og, .int .i64 on, .int .u64 ox] 39)) true kind os og on ox
                clear HP hB
                go_wp2_with fail
                generalize wr.alloc (.cells #[.bool true, .int .i64 kind, .int .i64 os, .int .i64 og, .int .i64 on, .int .u64 ox] 39) = W0 at *
                generalize wr.heap.size = X at *
                refine hD.mono ?_
                clear c0 c1 c2 c3 c4 c5

                rintro e w3 ⟨rfl, s', v', u', hb', wb', hP⟩
                clear hD HW
                have CH : Hid (∀ W, PRel w ⟨ta, ra, ca, qa, fa, ya, ga⟩ ⟨tb, rb, cb, qb, fb, yb, gb⟩ m n na nb (k + 1) s' v' u' ha wa hb' wb' W → W.cell? ⟨n, 2, none⟩ = some (.int .i64 s'.dn)) := fun W h => h.done
                have DM : ∀ W, PRel w ⟨ta, ra, ca, qa, fa, ya, ga⟩ ⟨tb, rb, cb, qb, fb, yb, gb⟩ m n na nb (k + 1) s' v' u' ha wa hb' wb' W → Calls Try.prog 15 #[.pointer (some ⟨m, 0, none⟩)] W fun e w' => e = .returned (.int .i64 s'.dn) ∧ PRel w ⟨ta, ra, ca, qa, fa, ya, ga⟩ ⟨tb, rb, cb, qb, fb, yb, gb⟩ m n na nb (k + 1) s' v' u' ha wa hb' wb' w' := fun W h => done_m h
                generalize s'.dn = dn at CH DM
                have e2 := CH.out _ hP
                have q5 : (dn != dn) = false := by simp
                go_wp2_with fail
                have hH := hP.calm (kept_drew _)
                clear hP
                go_region_held3 (fun W => W.cell? ⟨n, 2, none⟩ = some (.int .i64 dn) ∧ PRel w ⟨ta, ra, ca, qa, fa, ya, ga⟩ ⟨tb, rb, cb, qb, fb, yb, gb⟩ m n na nb (k + 1) s' v' u' ha wa hb' wb' W)
                  (first | exact ⟨CH.out _ hH, hH⟩)
                  (first | (go_at_call 15; refine (DM _ hH).mono ?_; rintro e w' ⟨rfl, hH⟩))
                go_wp2
                go_roundw
                case rel => exact ⟨k + 1, s', v', u', ha, wa, hb', wb', by go_num, HL.out, hH⟩
                case measure => have := HL.out; simp [intOf]; omega
        · have hke : ¬ (k : Int) < (len : Int) := by omega
          have HK : Hid (k ≤ 2932031007317) := by show k ≤ 2932031007317; omega
          clear hlt hk HS hlen
          obtain ⟨wz, hwz⟩ : ∃ y, y = wr := ⟨_, rfl⟩
          subst hwz
          as_aux_lemma =>
            obtain ⟨i0, hi0, hz0, hz1, hz2⟩ := info_parts Try.infoSl
            have A1 : 1 ≤ na := hT.a1
            have A8 : na ≤ 8 := hT.a8
            have B8 : nb ≤ 8 := hT.b8
            go_wp2_with fail
            refine (all_a hT).mono ?_
            rintro e w1 ⟨gl, cl, rfl, hol, hP1, hSl⟩
            clear hT hol
            have hK2 := tabAll_st hSl 6 8 7 rfl rfl rfl (by rw [hP1.xa, hP1.la]) (by rw [hP1.la]; exact hP1.a1) (by rw [hP1.la]; exact hP1.a8)
            go_wp2_with fail
            refine hK2.mono ?_
            rintro e w2 ⟨vk, he, hS2⟩
            rw [hP1.la] at hS2
            obtain ⟨gk, ck, rfl, _, _⟩ := (show w2.ownsRow 0 53 8 vk na (slCells (slots ha wa)) from hS2.get 0 rfl).form (by omega)
            subst he
            have hF : FRel w ⟨ta, ra, ca, qa, fa, ya, ga⟩ ⟨tb, rb, cb, qb, fb, yb, gb⟩ m n na nb k s v u ha wa hb wb gk ck (.slice (some ⟨gl, 0, none⟩) na cl) na (slCells (slots ha wa)) w2 := FRel.of hP1 hS2
            clear hK2 hSl hS2
            have SA : ∀ W, FRel w ⟨ta, ra, ca, qa, fa, ya, ga⟩ ⟨tb, rb, cb, qb, fb, yb, gb⟩ m n na nb k s v u ha wa hb wb gk ck (.slice (some ⟨gl, 0, none⟩) na cl) na (slCells (slots ha wa)) W → Calls Try.prog 17 #[.slice (some ⟨gl, 0, none⟩) na cl, .slice (some ⟨ga, 0, none⟩) na na] W fun e w' => e = .returned (.bool true) ∧ FRel w ⟨ta, ra, ca, qa, fa, ya, ga⟩ ⟨tb, rb, cb, qb, fb, yb, gb⟩ m n na nb k s v u ha wa hb wb gk ck (.slice (some ⟨gl, 0, none⟩) na cl) na (slCells (slots ha wa)) w' := fun W h => f_same_a h h.ownL
            have NB : ∀ W, FRel w ⟨ta, ra, ca, qa, fa, ya, ga⟩ ⟨tb, rb, cb, qb, fb, yb, gb⟩ m n na nb k s v u ha wa hb wb gk ck (.slice (some ⟨gl, 0, none⟩) na cl) na (slCells (slots ha wa)) W → Calls Try.prog 16 #[.pointer (some ⟨tb, 0, none⟩)] W fun e w' => ∃ g cap, e = .returned (.slice (some ⟨g, 0, none⟩) nb cap) ∧ w'.ownsRow 0 53 8 (.slice (some ⟨g, 0, none⟩) nb cap) nb (slCells (slots hb wb)) ∧ FRel w ⟨ta, ra, ca, qa, fa, ya, ga⟩ ⟨tb, rb, cb, qb, fb, yb, gb⟩ m n na nb k s v u ha wa hb wb gk ck (.slice (some ⟨gl, 0, none⟩) na cl) na (slCells (slots ha wa)) w' := fun W h => f_all_b h
            have SB : ∀ W g cap, FRel w ⟨ta, ra, ca, qa, fa, ya, ga⟩ ⟨tb, rb, cb, qb, fb, yb, gb⟩ m n na nb k s v u ha wa hb wb gk ck (.slice (some ⟨gl, 0, none⟩) na cl) na (slCells (slots ha wa)) W → W.ownsRow 0 53 8 (.slice (some ⟨g, 0, none⟩) nb cap) nb (slCells (slots hb wb)) → Calls Try.prog 17 #[.slice (some ⟨g, 0, none⟩) nb cap, .slice (some ⟨gb, 0, none⟩) nb nb] W fun e w' => e = .returned (.bool true) ∧ FRel w ⟨ta, ra, ca, qa, fa, ya, ga⟩ ⟨tb, rb, cb, qb, fb, yb, gb⟩ m n na nb k s v u ha wa hb wb gk ck (.slice (some ⟨gl, 0, none⟩) na cl) na (slCells (slots ha wa)) w' := fun W g cap h ho => f_same_b h ho
            have LA : ∀ W, FRel w ⟨ta, ra, ca, qa, fa, ya, ga⟩ ⟨tb, rb, cb, qb, fb, yb, gb⟩ m n na nb k s v u ha wa hb wb gk ck (.slice (some ⟨gl, 0, none⟩) na cl) na (slCells (slots ha wa)) W → Calls Try.prog 18 #[.pointer (some ⟨ta, 0, none⟩)] W fun e w' => e = .returned (.int .i64 na) ∧ FRel w ⟨ta, ra, ca, qa, fa, ya, ga⟩ ⟨tb, rb, cb, qb, fb, yb, gb⟩ m n na nb k s v u ha wa hb wb gk ck (.slice (some ⟨gl, 0, none⟩) na cl) na (slCells (slots ha wa)) w' := fun W h => f_len_a h
            have LB : ∀ W, FRel w ⟨ta, ra, ca, qa, fa, ya, ga⟩ ⟨tb, rb, cb, qb, fb, yb, gb⟩ m n na nb k s v u ha wa hb wb gk ck (.slice (some ⟨gl, 0, none⟩) na cl) na (slCells (slots ha wa)) W → Calls Try.prog 18 #[.pointer (some ⟨tb, 0, none⟩)] W fun e w' => e = .returned (.int .i64 nb) ∧ FRel w ⟨ta, ra, ca, qa, fa, ya, ga⟩ ⟨tb, rb, cb, qb, fb, yb, gb⟩ m n na nb k s v u ha wa hb wb gk ck (.slice (some ⟨gl, 0, none⟩) na cl) na (slCells (slots ha wa)) w' := fun W h => f_len_b h
            have CH : Hid (∀ W, FRel w ⟨ta, ra, ca, qa, fa, ya, ga⟩ ⟨tb, rb, cb, qb, fb, yb, gb⟩ m n na nb k s v u ha wa hb wb gk ck (.slice (some ⟨gl, 0, none⟩) na cl) na (slCells (slots ha wa)) W → W.cell? ⟨ya, 1, none⟩ = some (.slice (some ⟨ga, 0, none⟩) na na) ∧ W.cell? ⟨yb, 1, none⟩ = some (.slice (some ⟨gb, 0, none⟩) nb nb)) := fun W h => ⟨h.rel.listA, h.rel.listB⟩
            have qa' : ((na : Int) == (na : Int)) = true := by simp
            have qb' : ((nb : Int) == (nb : Int)) = true := by simp
            have x1 := (CH.out _ hF).1
            have x2 := (CH.out _ hF).2
            go_wp2_with fail
            have hH := hF.calm (kept_drew _)
            clear hF
            go_region_held3 (fun W => W.cell? ⟨ya, 1, none⟩ = some (.slice (some ⟨ga, 0, none⟩) na na) ∧ W.cell? ⟨yb, 1, none⟩ = some (.slice (some ⟨gb, 0, none⟩) nb nb) ∧ FRel w ⟨ta, ra, ca, qa, fa, ya, ga⟩ ⟨tb, rb, cb, qb, fb, yb, gb⟩ m n na nb k s v u ha wa hb wb gk ck (.slice (some ⟨gl, 0, none⟩) na cl) na (slCells (slots ha wa)) W)
              (first | exact ⟨(CH.out _ hH).1, (CH.out _ hH).2, hH⟩)
              (first | (go_at_call_of 17 gl; refine (SA _ hH).mono ?_; rintro e w' ⟨rfl, hH⟩) | (go_at_call 16; refine (NB _ hH).mono ?_; rintro e w' ⟨gn, cn, rfl, hO, hH⟩) | (go_at_call_of 17 gn; refine (SB _ _ _ hH hO).mono ?_; rintro e w' ⟨rfl, hH⟩) | (go_at_call_of 18 ta; refine (LA _ hH).mono ?_; rintro e w' ⟨rfl, hH⟩) | (go_at_call_of 18 tb; refine (LB _ hH).mono ?_; rintro e w' ⟨rfl, hH⟩))
            clear SA NB SB LA LB CH x1 x2
            go_wp2_with fail
            have hn1 : (na : Int) ≤ 8 := by omega
            go_loopw [24] (fun i wr => ∃ (j : Nat) (xs : List Value), i = .int .i64 j ∧ j ≤ na ∧ xs.length = na * 8 ∧ FRel w ⟨ta, ra, ca, qa, fa, ya, ga⟩ ⟨tb, rb, cb, qb, fb, yb, gb⟩ m n na nb k s v u ha wa hb wb gk ck (.slice (some ⟨gl, 0, none⟩) na cl) na xs wr) (fun i _ => na - (intOf i).toNat)
            case atStart => exact ⟨0, _, rfl, Nat.zero_le _, by rw [slCells_length, slots_length ha wa (by rw [hH.rel.xa, hH.rel.la]), hH.rel.la], hH⟩
            case round =>
              obtain ⟨j, xs, rfl, hj, hxl, hF⟩ := hrel
              have hj0 : (0 : Int) ≤ (j : Int) := Int.natCast_nonneg _
              by_cases hlt : j < na
              · have hjn : (j : Int) < (na : Int) := by omega
                have hoL := hF.ownL
                have hx8 : j * 8 < xs.length := by omega
                have c0 : wr.cell? ⟨gl, j * 8, none⟩ = some xs[j * 8] := (hoL.cellAt (j * 8) (by omega)).trans (List.getElem?_eq_getElem hx8)
                generalize xs[j * 8] = old at c0
                have f0 : wr.frozen? ⟨gl, j * 8, none⟩ = false := own_frozen hoL (j * 8)
                have HF : Hid (FRel w ⟨ta, ra, ca, qa, fa, ya, ga⟩ ⟨tb, rb, cb, qb, fb, yb, gb⟩ m n na nb k s v u ha wa hb wb gk ck (.slice (some ⟨gl, 0, none⟩) na cl) na (xs.set (j * 8) (.int .i64 (-1))) (wr.setCell ⟨gl, j * 8, none⟩ (.int .i64 (-1)))) := FRel.of hF.rel (hF.st.ownSet 1 rfl (j * 8) (by omega) (.int .i64 (-1)))
                have HLn : Hid ((xs.set (j * 8) (.int .i64 (-1))).length = na * 8) := by show (xs.set (j * 8) (Value.int .i64 (-1))).length = na * 8; rw [List.length_set]; exact hxl
                clear hoL hF hxl hx8
                generalize xs.set (j * 8) (.int .i64 (-1)) = xs1 at HF HLn
                go_wp2
                go_roundw
                case rel => exact ⟨j + 1, xs1, by go_num, hlt, HLn.out, HF.out⟩
                case measure => simp [intOf]; omega
              · have hjn : ¬ (j : Int) < (na : Int) := by omega
                obtain ⟨wy, hwy⟩ : ∃ y, y = wr := ⟨_, rfl⟩
                subst hwy
                clear hH
                have hoA : (wy.alloc (.cells #[.int .i64 0, .int .i64 0, .int .i64 0, .int .i64 0, .bool false, .int .i64 0, .int .u64 0, .int .u64 0] 53)).ownsRow 0 53 8 (.slice (some ⟨gl, 0, none⟩) na cl) na xs := hF.ownL.alloc _
                go_wp2_with (first | (refine wpList_buildSl (by rfl) (.tmp 182) (by rfl) (by rfl) ?_) | (at_builtin; refine wpList_append_own_at _ rfl (.tmp 181) (.tmp 183) 43 rfl 0 53 i0 _ 8 64 Try.underlying43 hi0 hz0 hz1 hz2 rfl (by omega) (.slice (some ⟨gl, 0, none⟩) na cl) na xs rfl hoA ⟨wy.heap.size, 0, none⟩ 1 1 [.int .i64 0, .int .i64 0, .int .i64 0, .int .i64 0, .bool false, .int .i64 0, .int .u64 0, .int .u64 0] rfl rfl (World.news_of_block (cs := #[.int .i64 0, .int .i64 0, .int .i64 0, .int .i64 0, .bool false, .int .i64 0, .int .u64 0, .int .u64 0]) (t := 53) (fr := (0, 0)) (heap_alloc_new wy _)) (by simp [Value.oneCell']) (by unfold maxLen; omega) (by omega) (Nat.zero_le _) ?_; intro vl w5 hown' hgrow hnil hat))
                have hG : FRel w ⟨ta, ra, ca, qa, fa, ya, ga⟩ ⟨tb, rb, cb, qb, fb, yb, gb⟩ m n na nb k s v u ha wa hb wb gk ck vl (na + 1) (xs ++ [.int .i64 0, .int .i64 0, .int .i64 0, .int .i64 0, .bool false, .int .i64 0, .int .u64 0, .int .u64 0]) w5 := by
                  refine FRel.of hF.rel ((hF.st.alloc (.cells #[.int .i64 0, .int .i64 0, .int .i64 0, .int .i64 0, .bool false, .int .i64 0, .int .u64 0, .int .u64 0] 53)).ownGrow 1 rfl hown' ?_ ?_)
                  · exact ⟨hgrow.os, hgrow.tape, hgrow.output, hgrow.size, fun b hb hne => hgrow.block b hb (fun e => hne e.symm)⟩
                  · rcases hat with hat | hat
                    · exact .inl hat
                    · exact .inr ⟨_, hat, Nat.le_refl _⟩
                clear hF hoA hown' hgrow hnil hat hxl
                generalize xs ++ [.int .i64 0, .int .i64 0, .int .i64 0, .int .i64 0, .bool false, .int .i64 0, .int .u64 0, .int .u64 0] = xs2 at *
                have SA : ∀ W, FRel w ⟨ta, ra, ca, qa, fa, ya, ga⟩ ⟨tb, rb, cb, qb, fb, yb, gb⟩ m n na nb k s v u ha wa hb wb gk ck vl (na + 1) xs2 W → Calls Try.prog 17 #[.slice (some ⟨gk, 0, none⟩) na ck, .slice (some ⟨ga, 0, none⟩) na na] W fun e w' => e = .returned (.bool true) ∧ FRel w ⟨ta, ra, ca, qa, fa, ya, ga⟩ ⟨tb, rb, cb, qb, fb, yb, gb⟩ m n na nb k s v u ha wa hb wb gk ck vl (na + 1) xs2 w' := fun W h => f_same_a h h.ownK
                have NA : ∀ W, FRel w ⟨ta, ra, ca, qa, fa, ya, ga⟩ ⟨tb, rb, cb, qb, fb, yb, gb⟩ m n na nb k s v u ha wa hb wb gk ck vl (na + 1) xs2 W → Calls Try.prog 16 #[.pointer (some ⟨ta, 0, none⟩)] W fun e w' => ∃ g cap, e = .returned (.slice (some ⟨g, 0, none⟩) na cap) ∧ w'.ownsRow 0 53 8 (.slice (some ⟨g, 0, none⟩) na cap) na (slCells (slots ha wa)) ∧ FRel w ⟨ta, ra, ca, qa, fa, ya, ga⟩ ⟨tb, rb, cb, qb, fb, yb, gb⟩ m n na nb k s v u ha wa hb wb gk ck vl (na + 1) xs2 w' := fun W h => f_all_a h
                have SN : ∀ W g cap, FRel w ⟨ta, ra, ca, qa, fa, ya, ga⟩ ⟨tb, rb, cb, qb, fb, yb, gb⟩ m n na nb k s v u ha wa hb wb gk ck vl (na + 1) xs2 W → W.ownsRow 0 53 8 (.slice (some ⟨g, 0, none⟩) na cap) na (slCells (slots ha wa)) → Calls Try.prog 17 #[.slice (some ⟨g, 0, none⟩) na cap, .slice (some ⟨ga, 0, none⟩) na na] W fun e w' => e = .returned (.bool true) ∧ FRel w ⟨ta, ra, ca, qa, fa, ya, ga⟩ ⟨tb, rb, cb, qb, fb, yb, gb⟩ m n na nb k s v u ha wa hb wb gk ck vl (na + 1) xs2 w' := fun W g cap h ho => f_same_a h ho
                have LM : ∀ W, FRel w ⟨ta, ra, ca, qa, fa, ya, ga⟩ ⟨tb, rb, cb, qb, fb, yb, gb⟩ m n na nb k s v u ha wa hb wb gk ck vl (na + 1) xs2 W → Calls Try.prog 20 #[.pointer (some ⟨m, 0, none⟩)] W fun e w' => ∃ v', e = .returned v' ∧ w'.ownsRow 0 88 6 v' s.l.length (logCells s.l) ∧ FRel w ⟨ta, ra, ca, qa, fa, ya, ga⟩ ⟨tb, rb, cb, qb, fb, yb, gb⟩ m n na nb k s v u ha wa hb wb gk ck vl (na + 1) xs2 w' := fun W h => f_log h HK.out
                have SM : ∀ W v', FRel w ⟨ta, ra, ca, qa, fa, ya, ga⟩ ⟨tb, rb, cb, qb, fb, yb, gb⟩ m n na nb k s v u ha wa hb wb gk ck vl (na + 1) xs2 W → W.ownsRow 0 88 6 v' s.l.length (logCells s.l) → Calls Try.prog 19 #[v', u] W fun e w' => e = .returned (.bool true) ∧ FRel w ⟨ta, ra, ca, qa, fa, ya, ga⟩ ⟨tb, rb, cb, qb, fb, yb, gb⟩ m n na nb k s v u ha wa hb wb gk ck vl (na + 1) xs2 w' := fun W v' h ho => f_same_m h HK.out ho
                have CH : Hid (∀ W, FRel w ⟨ta, ra, ca, qa, fa, ya, ga⟩ ⟨tb, rb, cb, qb, fb, yb, gb⟩ m n na nb k s v u ha wa hb wb gk ck vl (na + 1) xs2 W → W.cell? ⟨ya, 1, none⟩ = some (.slice (some ⟨ga, 0, none⟩) na na) ∧ W.cell? ⟨n, 4, none⟩ = some u) := fun W h => ⟨h.rel.listA, h.rel.log⟩
                have x1 := (CH.out _ hG).1
                have x2 := (CH.out _ hG).2
                go_wp2_with fail
                have hH := hG.calm (kept_drew _)
                clear hG
                go_region_held3 (fun W => W.cell? ⟨ya, 1, none⟩ = some (.slice (some ⟨ga, 0, none⟩) na na) ∧ W.cell? ⟨n, 4, none⟩ = some u ∧ FRel w ⟨ta, ra, ca, qa, fa, ya, ga⟩ ⟨tb, rb, cb, qb, fb, yb, gb⟩ m n na nb k s v u ha wa hb wb gk ck vl (na + 1) xs2 W)
                  (first | exact ⟨(CH.out _ hH).1, (CH.out _ hH).2, hH⟩)
                  (first | (go_at_call_of 17 gk; refine (SA _ hH).mono ?_; rintro e w' ⟨rfl, hH⟩) | (go_at_call 16; refine (NA _ hH).mono ?_; rintro e w' ⟨gn, cn, rfl, hO, hH⟩) | (go_at_call_of 17 gn; refine (SN _ _ _ hH hO).mono ?_; rintro e w' ⟨rfl, hH⟩) | (go_at_call 20; refine (LM _ hH).mono ?_; rintro e w' ⟨vg, rfl, hL, hH⟩) | (go_at_call_of 19 vg; refine (SM _ _ hH hL).mono ?_; rintro e w' ⟨rfl, hH⟩))
                go_wp2
                go_ret
                exact ⟨rfl, hH.rel.st.same⟩
end Go.Proofs.Ythaajlelaoimaaa

