/- GateTurns's walk: each call of one gate, what it answers, and what the gate is then. -/
import Derived.Test.YtflcmnkaponehaaUp
import Derived.Test.YtflcmnkaponehaaOps
import Derived.Test.YtflcmnkaponehaaTurn
import Derived.Test.YtflcmnkaponehaaSame
namespace Go.Proofs.Ytflcmnkaponehaa
open Go.RowKit
set_option linter.unusedVariables false
set_option linter.unusedSimpArgs false
attribute [local go_sem ↓] Go.wp_at_zero Go.wp_at_succ

/-- What a round leaves. -/
def TRel (w : World) (g r c m k : Nat) (q : Nat) (s : Mt) (v : Value) (xn xo : Int) (wr : World) : Prop :=
  s.l.length = q ∧ s.within k ∧ 0 ≤ xn ∧ xn ≤ k ∧ GOk xn xo ∧ St w [gateI g r, gtRowI r c (some m) 2 [⟨xn, xo⟩], meterI 51 (some m) s v] wr
theorem TRel.calm {w : World} {g r c m k q : Nat} {s : Mt} {v : Value} {xn xo : Int} {wr w' : World} (h : TRel w g r c m k q s v xn xo wr) (kk : Kept (fun _ => False) wr w') : TRel w g r c m k q s v xn xo w' := by
  obtain ⟨a, b, cc, d, e, f⟩ := h
  exact ⟨a, b, cc, d, e, f.calm kk⟩
theorem TRel.later {w : World} {g r c m k q : Nat} {s : Mt} {v : Value} {xn xo : Int} {wr : World} (h : TRel w g r c m k q s v xn xo wr) : TRel w g r c m (k + 1) q s v xn xo wr := by
  obtain ⟨a, b, cc, d, e, f⟩ := h
  exact ⟨a, b.more (Nat.le_succ _), cc, by omega, e, f⟩

theorem give_turns {w : World} {g r c m k q : Nat} {s : Mt} {v : Value} {xn xo : Int} {wr : World} (h : TRel w g r c m k q s v xn xo wr) (hk : k ≤ 1048576) (t : Int) :
    Calls Try.prog 15 #[.pointer (some ⟨g, 0, none⟩), .int .i64 t] wr fun e w' => e = .returned (.int .i64 (giveE ⟨xn, xo⟩ t)) ∧
      ∃ s' v', TRel w g r c m (k + 1) (q + if isTh t then 1 else 0) s' v' (giveX ⟨xn, xo⟩ t).n (giveX ⟨xn, xo⟩ t).o w' := by
  obtain ⟨a, b, cc, d, e, f⟩ := h
  refine (gateGive_st f 2 0 1 rfl rfl rfl (by omega) b (by omega) cc (by show xn ≤ _; omega) t).mono ?_
  rintro e' w' ⟨he, v', hS⟩
  refine ⟨he, _, v', ?_, giveS_within b _ _, ?_, ?_, ?_, hS⟩
  · unfold giveS
    cases isTh t <;> simp [Mt.note, a]
  · exact Int.le_trans cc (giveX_near ⟨xn, xo⟩ t).1
  · have := (giveX_near ⟨xn, xo⟩ t).2
    simp only at this
    omega
  · exact e.give t

theorem take_turns {w : World} {g r c m k q : Nat} {s : Mt} {v : Value} {xn xo : Int} {wr : World} (h : TRel w g r c m k q s v xn xo wr) (hk : k ≤ 1048576) (t : Int) :
    Calls Try.prog 16 #[.pointer (some ⟨g, 0, none⟩), .int .i64 t] wr fun e w' => e = .returned (.tuple #[.int .i64 (takeR ⟨xn, xo⟩ t), .int .i64 (takeE ⟨xn, xo⟩ t)]) ∧
      ∃ s' v', TRel w g r c m (k + 1) (q + if isTh t then 1 else 0) s' v' (takeX ⟨xn, xo⟩ t).n (takeX ⟨xn, xo⟩ t).o w' := by
  obtain ⟨a, b, cc, d, e, f⟩ := h
  refine (gateTake_st f 2 0 1 rfl rfl rfl (by omega) b (by omega) cc (by show xn ≤ _; omega) t).mono ?_
  rintro e' w' ⟨he, v', hS⟩
  refine ⟨he, _, v', ?_, takeS_within b _ _, ?_, ?_, ?_, hS⟩
  · unfold takeS
    cases isTh t <;> simp [Mt.note, a]
  · exact Int.le_trans cc (takeX_near ⟨xn, xo⟩ t).1
  · have := (takeX_near ⟨xn, xo⟩ t).2
    simp only at this
    omega
  · exact e.take t

theorem now_turns {w : World} {g r c m k q : Nat} {s : Mt} {v : Value} {xn xo : Int} {wr : World} (h : TRel w g r c m k q s v xn xo wr) :
    Calls Try.prog 11 #[.pointer (some ⟨g, 0, none⟩)] wr fun e w' => e = .returned (.agg #[.int .i64 xn, .int .i64 xo]) ∧ TRel w g r c m k q s v xn xo w' := by
  obtain ⟨a, b, cc, d, e, f⟩ := h
  refine (gateNow_st f 0 1 rfl rfl).mono ?_
  rintro e' w' ⟨he, hS⟩
  exact ⟨he, a, b, cc, d, e, hS⟩

set_option maxRecDepth 100000 in
set_option maxHeartbeats 4000000 in
theorem turns_walk (a : Option Addr) (len cap : Nat) (f : Nat → OpD) (w : World) (hs : ScriptAt w a len f) (hlen : len ≤ 1048576) :
    Calls Try.prog 4 #[.slice a len cap] w fun e w' => e = .returned (.bool true) ∧ Kept (fun _ => False) w w' := by
  have HS : Hid (ScriptAt w a len f) := hs
  clear hs
  go_enter Try.func4, Try.ntmps4
  go_wp2_with fail
  refine (awake_any _).mono ?_
  rintro e wa ⟨rfl, hka⟩
  have hA := (St.nil w).calm hka
  have hN := newMeter_st hA
  clear hka
  go_wp2_with fail
  refine hN.mono ?_
  rintro e wm ⟨rfl, hM, hz⟩
  clear hz hN hA
  generalize wa.heap.size = m at *
  have hG := gateNew_st hM (some m)
  go_wp2_with fail
  refine hG.mono ?_
  rintro e wg ⟨rfl, hS0, _⟩
  clear hG hM
  generalize wm.heap.size + 1 + 1 = g at *
  generalize wm.heap.size + 1 = r at *
  generalize wm.heap.size = c at *
  have hT0 : TRel w g r c m 0 0 Mt.zero (.slice none 0 0) 0 0 wg := ⟨rfl, Mt.within_zero 0, Int.le_refl _, Int.le_refl _, .inl ⟨rfl, rfl⟩, hS0⟩
  clear hS0
  go_wp2_with fail
  go_loopw [6, 7, 8, 9] (fun nu ow ca i wr => ∃ (k q : Nat) (s : Mt) (v : Value) (xn xo : Int), nu = .int .i64 xn ∧ ow = .int .i64 xo ∧ ca = .int .i64 q ∧ i = .int .i64 k ∧ k ≤ len ∧ TRel w g r c m k q s v xn xo wr) (fun _ _ _ i _ => len - (intOf i).toNat)
  case atStart => exact ⟨0, 0, _, _, 0, 0, rfl, rfl, rfl, rfl, Nat.zero_le _, hT0⟩
  case round =>
    clear hT0
    obtain ⟨k, q, s, v, xn, xo, rfl, rfl, rfl, rfl, hk, hT⟩ := hrel
    by_cases hlt : k < len
    · obtain ⟨b0, off, rfl, hops⟩ : ∃ b off, a = some ⟨b, off, none⟩ ∧ ∀ i, i < len → OpAt w b (off + i * 3) (f i) := by
        rcases HS.out with h0 | h
        · omega
        · exact h
      have ho := (hops k hlt).kept hT.2.2.2.2.2.same
      clear hops
      generalize f k = op at ho
      obtain ⟨other, kind, t⟩ := op
      obtain ⟨o0, o1, o2⟩ := ho
      simp only at o0 o1 o2
      have hi0 : (0 : Int) ≤ (k : Int) := Int.natCast_nonneg _
      have hi1 : (k : Int) < (len : Int) := by omega
      have hkb : (k : Int) ≤ 1048576 := by omega
      have hqb : (q : Int) ≤ 1048576 := by have := hT.1; have := hT.2.1.len; omega
      have hx0 : 0 ≤ xn := hT.2.2.1
      have hx1 : xn ≤ 1048576 := by have := hT.2.2.2.1; omega
      have hok : GOk xn xo := hT.2.2.2.2.1
      have hG := give_turns hT (by omega) t
      have hK := take_turns hT (by omega) t
      clear hT
      have HL : Hid (k < len) := hlt
      have HE : Hid (len ≤ 1048576) := hlen
      have HK : Hid (k ≤ len) := hk
      clear hlt hlen hk
      by_cases hkd : kind = 3
      · subst hkd
        by_cases z0 : xo = 0
        · subst z0
          by_cases h1 : t < 1
          · have g1 : ¬ (1 : Int) ≤ t := by omega
            have e1 : ((0 : Int) == 0) = true := rfl
            have e2 : True := trivial
            have hi : isTh t = false := by simp [isTh]; omega
            clear hK
            simp only [giveE, giveX, hi, e2, Bool.true_and, Bool.false_and, Bool.and_true, Bool.and_false, Bool.false_eq_true, if_true, if_false, Nat.add_zero] at hG
            go_wp2_with fail
            refine hG.mono ?_
            rintro e w1 ⟨rfl, s', v', hT⟩
            clear hG
            go_wp2_with fail
            refine (now_turns hT).mono ?_
            rintro e w2 ⟨rfl, hT2⟩
            have hE : ∀ {W : World}, Kept (fun _ => False) w2 W → TRel w g r c m (k + 1) (q) s' v' xn 0 W := fun kk => hT2.calm kk
            have HT : Hid (TRel w g r c m (k + 1) (q) s' v' xn 0 (w2.alloc (.cells #[.int .i64 xn, .int .i64 0] 34))) := hT2.calm (kept_alloc _ _)
            have hte := hT2.2.2.2.2.1.even
            have htn := hT2.2.2.1
            clear hT hT2 hE
            go_wp2
            go_roundw
            case rel => exact ⟨k + 1, q, s', v', xn, 0, rfl, rfl, rfl, by go_num, HL.out, HT.out⟩
            case measure => have := HL.out; simp [intOf]; omega
          · have g1 : (1 : Int) ≤ t := by omega
            by_cases h2 : 8 < t
            · have g2 : ¬ t ≤ (8 : Int) := by omega
              have e1 : ((0 : Int) == 0) = true := rfl
              have e2 : ((0 : Int) == t) = false := by simp; omega
              have hi : isTh t = false := by simp [isTh]; omega
              clear hK
              simp only [giveE, giveX, hi, e2, Bool.true_and, Bool.false_and, Bool.and_true, Bool.and_false, Bool.false_eq_true, if_true, if_false, Nat.add_zero] at hG
              go_wp2_with fail
              refine hG.mono ?_
              rintro e w1 ⟨rfl, s', v', hT⟩
              clear hG
              go_wp2_with fail
              refine (now_turns hT).mono ?_
              rintro e w2 ⟨rfl, hT2⟩
              have hE : ∀ {W : World}, Kept (fun _ => False) w2 W → TRel w g r c m (k + 1) (q) s' v' xn 0 W := fun kk => hT2.calm kk
              have HT : Hid (TRel w g r c m (k + 1) (q) s' v' xn 0 (w2.alloc (.cells #[.int .i64 xn, .int .i64 0] 34))) := hT2.calm (kept_alloc _ _)
              have hte := hT2.2.2.2.2.1.even
              have htn := hT2.2.2.1
              clear hT hT2 hE
              go_wp2
              go_roundw
              case rel => exact ⟨k + 1, q, s', v', xn, 0, rfl, rfl, rfl, by go_num, HL.out, HT.out⟩
              case measure => have := HL.out; simp [intOf]; omega
            · have g2 : t ≤ (8 : Int) := by omega
              have e1 : ((0 : Int) == 0) = true := rfl
              have e2 : ((0 : Int) == t) = false := by simp; omega
              have hi : isTh t = true := by simp only [isTh, Bool.and_eq_true, decide_eq_true_eq]; omega
              clear hK
              simp only [giveE, giveX, hi, e2, Bool.true_and, Bool.false_and, Bool.and_true, Bool.and_false, Bool.false_eq_true, if_true, if_false, Nat.add_zero] at hG
              go_wp2_with fail
              refine hG.mono ?_
              rintro e w1 ⟨rfl, s', v', hT⟩
              clear hG
              go_wp2_with fail
              refine (now_turns hT).mono ?_
              rintro e w2 ⟨rfl, hT2⟩
              have hE : ∀ {W : World}, Kept (fun _ => False) w2 W → TRel w g r c m (k + 1) ((q + 1)) s' v' xn 0 W := fun kk => hT2.calm kk
              have HT : Hid (TRel w g r c m (k + 1) ((q + 1)) s' v' xn 0 (w2.alloc (.cells #[.int .i64 xn, .int .i64 0] 34))) := hT2.calm (kept_alloc _ _)
              have hte := hT2.2.2.2.2.1.even
              have htn := hT2.2.2.1
              clear hT hT2 hE
              go_wp2
              go_roundw
              case rel => exact ⟨k + 1, (q + 1), s', v', xn, 0, rfl, rfl, by go_num, by go_num, HL.out, HT.out⟩
              case measure => have := HL.out; simp [intOf]; omega
        · have n0 : (xo == 0) = false := by simpa using z0
          have n1 : (xo != 0) = true := by simpa using z0
          have r1 : 1 ≤ xo ∧ xo ≤ 8 := by rcases hok with h | h <;> omega
          by_cases h1 : t < 1
          · have g1 : ¬ (1 : Int) ≤ t := by omega
            have e1 := n0
            have e2 : (xo == t) = false := by simp; omega
            have hi : isTh t = false := by simp [isTh]; omega
            clear hK
            simp only [giveE, giveX, hi, e2, Bool.true_and, Bool.false_and, Bool.and_true, Bool.and_false, Bool.false_eq_true, if_true, if_false, Nat.add_zero] at hG
            go_wp2_with fail
            refine hG.mono ?_
            rintro e w1 ⟨rfl, s', v', hT⟩
            clear hG
            go_wp2_with fail
            refine (now_turns hT).mono ?_
            rintro e w2 ⟨rfl, hT2⟩
            have hE : ∀ {W : World}, Kept (fun _ => False) w2 W → TRel w g r c m (k + 1) (q) s' v' xn xo W := fun kk => hT2.calm kk
            have HT : Hid (TRel w g r c m (k + 1) (q) s' v' xn xo (w2.alloc (.cells #[.int .i64 xn, .int .i64 xo] 34))) := hT2.calm (kept_alloc _ _)
            have hte := hT2.2.2.2.2.1.odd (by omega)
            have ht1 : (xo == 0) = false := by simp; omega
            have ht2 : (xo != 0) = true := by simp; omega
            have htn := hT2.2.2.1
            clear hT hT2 hE
            go_wp2
            go_roundw
            case rel => exact ⟨k + 1, q, s', v', xn, xo, rfl, rfl, rfl, by go_num, HL.out, HT.out⟩
            case measure => have := HL.out; simp [intOf]; omega
          · have g1 : (1 : Int) ≤ t := by omega
            by_cases h2 : 8 < t
            · have g2 : ¬ t ≤ (8 : Int) := by omega
              have e1 := n0
              have e2 : (xo == t) = false := by simp; omega
              have hi : isTh t = false := by simp [isTh]; omega
              clear hK
              simp only [giveE, giveX, hi, e2, Bool.true_and, Bool.false_and, Bool.and_true, Bool.and_false, Bool.false_eq_true, if_true, if_false, Nat.add_zero] at hG
              go_wp2_with fail
              refine hG.mono ?_
              rintro e w1 ⟨rfl, s', v', hT⟩
              clear hG
              go_wp2_with fail
              refine (now_turns hT).mono ?_
              rintro e w2 ⟨rfl, hT2⟩
              have hE : ∀ {W : World}, Kept (fun _ => False) w2 W → TRel w g r c m (k + 1) (q) s' v' xn xo W := fun kk => hT2.calm kk
              have HT : Hid (TRel w g r c m (k + 1) (q) s' v' xn xo (w2.alloc (.cells #[.int .i64 xn, .int .i64 xo] 34))) := hT2.calm (kept_alloc _ _)
              have hte := hT2.2.2.2.2.1.odd (by omega)
              have ht1 : (xo == 0) = false := by simp; omega
              have ht2 : (xo != 0) = true := by simp; omega
              have htn := hT2.2.2.1
              clear hT hT2 hE
              go_wp2
              go_roundw
              case rel => exact ⟨k + 1, q, s', v', xn, xo, rfl, rfl, rfl, by go_num, HL.out, HT.out⟩
              case measure => have := HL.out; simp [intOf]; omega
            · have g2 : t ≤ (8 : Int) := by omega
              have e1 := n0
              by_cases het : xo = t
              · have e2 : (xo == t) = true := by simpa using het
                clear het
                have hi : isTh t = true := by simp only [isTh, Bool.and_eq_true, decide_eq_true_eq]; omega
                clear hK
                simp only [giveE, giveX, hi, e2, Bool.true_and, Bool.false_and, Bool.and_true, Bool.and_false, Bool.false_eq_true, if_true, if_false, Nat.add_zero] at hG
                go_wp2_with fail
                refine hG.mono ?_
                rintro e w1 ⟨rfl, s', v', hT⟩
                clear hG
                go_wp2_with fail
                refine (now_turns hT).mono ?_
                rintro e w2 ⟨rfl, hT2⟩
                have hE : ∀ {W : World}, Kept (fun _ => False) w2 W → TRel w g r c m (k + 1) ((q + 1)) s' v' (xn + 1) 0 W := fun kk => hT2.calm kk
                have HT : Hid (TRel w g r c m (k + 1) ((q + 1)) s' v' (xn + 1) 0 (w2.alloc (.cells #[.int .i64 (xn + 1), .int .i64 0] 34))) := hT2.calm (kept_alloc _ _)
                have hte := hT2.2.2.2.2.1.even
                have htn := hT2.2.2.1
                clear hT hT2 hE
                go_wp2
                go_roundw
                case rel => exact ⟨k + 1, (q + 1), s', v', (xn + 1), 0, rfl, rfl, by go_num, by go_num, HL.out, HT.out⟩
                case measure => have := HL.out; simp [intOf]; omega
              · have e2 : (xo == t) = false := by simpa using het
                have hi : isTh t = true := by simp only [isTh, Bool.and_eq_true, decide_eq_true_eq]; omega
                clear hK
                simp only [giveE, giveX, hi, e2, Bool.true_and, Bool.false_and, Bool.and_true, Bool.and_false, Bool.false_eq_true, if_true, if_false, Nat.add_zero] at hG
                go_wp2_with fail
                refine hG.mono ?_
                rintro e w1 ⟨rfl, s', v', hT⟩
                clear hG
                go_wp2_with fail
                refine (now_turns hT).mono ?_
                rintro e w2 ⟨rfl, hT2⟩
                have hE : ∀ {W : World}, Kept (fun _ => False) w2 W → TRel w g r c m (k + 1) ((q + 1)) s' v' xn xo W := fun kk => hT2.calm kk
                have HT : Hid (TRel w g r c m (k + 1) ((q + 1)) s' v' xn xo (w2.alloc (.cells #[.int .i64 xn, .int .i64 xo] 34))) := hT2.calm (kept_alloc _ _)
                have hte := hT2.2.2.2.2.1.odd (by omega)
                have ht1 : (xo == 0) = false := by simp; omega
                have ht2 : (xo != 0) = true := by simp; omega
                have htn := hT2.2.2.1
                clear hT hT2 hE
                go_wp2
                go_roundw
                case rel => exact ⟨k + 1, (q + 1), s', v', xn, xo, rfl, rfl, by go_num, by go_num, HL.out, HT.out⟩
                case measure => have := HL.out; simp [intOf]; omega
      · have ek : (kind == 3) = false := by simpa using hkd
        clear hkd
        by_cases z0 : xo = 0
        · subst z0
          by_cases h1 : t < 1
          · have g1 : ¬ (1 : Int) ≤ t := by omega
            have e1 : ((0 : Int) == 0) = true := rfl
            have e2 : True := trivial
            have hi : isTh t = false := by simp [isTh]; omega
            clear hG
            simp only [takeR, takeE, takeX, hi, e1, Bool.true_and, Bool.false_and, Bool.and_true, Bool.and_false, Bool.false_eq_true, if_true, if_false, Nat.add_zero] at hK
            go_wp2_with fail
            refine hK.mono ?_
            rintro e w1 ⟨rfl, s', v', hT⟩
            clear hK
            go_wp2_with fail
            refine (now_turns hT).mono ?_
            rintro e w2 ⟨rfl, hT2⟩
            have hE : ∀ {W : World}, Kept (fun _ => False) w2 W → TRel w g r c m (k + 1) (q) s' v' xn 0 W := fun kk => hT2.calm kk
            have HT : Hid (TRel w g r c m (k + 1) (q) s' v' xn 0 (w2.alloc (.cells #[.int .i64 xn, .int .i64 0] 34))) := hT2.calm (kept_alloc _ _)
            have hte := hT2.2.2.2.2.1.even
            have htn := hT2.2.2.1
            clear hT hT2 hE
            go_wp2
            go_roundw
            case rel => exact ⟨k + 1, q, s', v', xn, 0, rfl, rfl, rfl, by go_num, HL.out, HT.out⟩
            case measure => have := HL.out; simp [intOf]; omega
          · have g1 : (1 : Int) ≤ t := by omega
            by_cases h2 : 8 < t
            · have g2 : ¬ t ≤ (8 : Int) := by omega
              have e1 : ((0 : Int) == 0) = true := rfl
              have e2 : ((0 : Int) == t) = false := by simp; omega
              have hi : isTh t = false := by simp [isTh]; omega
              clear hG
              simp only [takeR, takeE, takeX, hi, e1, Bool.true_and, Bool.false_and, Bool.and_true, Bool.and_false, Bool.false_eq_true, if_true, if_false, Nat.add_zero] at hK
              go_wp2_with fail
              refine hK.mono ?_
              rintro e w1 ⟨rfl, s', v', hT⟩
              clear hK
              go_wp2_with fail
              refine (now_turns hT).mono ?_
              rintro e w2 ⟨rfl, hT2⟩
              have hE : ∀ {W : World}, Kept (fun _ => False) w2 W → TRel w g r c m (k + 1) (q) s' v' xn 0 W := fun kk => hT2.calm kk
              have HT : Hid (TRel w g r c m (k + 1) (q) s' v' xn 0 (w2.alloc (.cells #[.int .i64 xn, .int .i64 0] 34))) := hT2.calm (kept_alloc _ _)
              have hte := hT2.2.2.2.2.1.even
              have htn := hT2.2.2.1
              clear hT hT2 hE
              go_wp2
              go_roundw
              case rel => exact ⟨k + 1, q, s', v', xn, 0, rfl, rfl, rfl, by go_num, HL.out, HT.out⟩
              case measure => have := HL.out; simp [intOf]; omega
            · have g2 : t ≤ (8 : Int) := by omega
              have e1 : ((0 : Int) == 0) = true := rfl
              have e2 : ((0 : Int) == t) = false := by simp; omega
              have hi : isTh t = true := by simp only [isTh, Bool.and_eq_true, decide_eq_true_eq]; omega
              clear hG
              simp only [takeR, takeE, takeX, hi, e1, Bool.true_and, Bool.false_and, Bool.and_true, Bool.and_false, Bool.false_eq_true, if_true, if_false, Nat.add_zero] at hK
              go_wp2_with fail
              refine hK.mono ?_
              rintro e w1 ⟨rfl, s', v', hT⟩
              clear hK
              go_wp2_with fail
              refine (now_turns hT).mono ?_
              rintro e w2 ⟨rfl, hT2⟩
              have hE : ∀ {W : World}, Kept (fun _ => False) w2 W → TRel w g r c m (k + 1) ((q + 1)) s' v' (xn + 1) t W := fun kk => hT2.calm kk
              have HT : Hid (TRel w g r c m (k + 1) ((q + 1)) s' v' (xn + 1) t (w2.alloc (.cells #[.int .i64 (xn + 1), .int .i64 t] 34))) := hT2.calm (kept_alloc _ _)
              have hte := hT2.2.2.2.2.1.odd (by omega)
              have ht1 : (t == 0) = false := by simp; omega
              have ht2 : (t != 0) = true := by simp; omega
              have htn := hT2.2.2.1
              clear hT hT2 hE
              go_wp2
              go_roundw
              case rel => exact ⟨k + 1, (q + 1), s', v', (xn + 1), t, rfl, rfl, by go_num, by go_num, HL.out, HT.out⟩
              case measure => have := HL.out; simp [intOf]; omega
        · have n0 : (xo == 0) = false := by simpa using z0
          have n1 : (xo != 0) = true := by simpa using z0
          have r1 : 1 ≤ xo ∧ xo ≤ 8 := by rcases hok with h | h <;> omega
          by_cases h1 : t < 1
          · have g1 : ¬ (1 : Int) ≤ t := by omega
            have e1 := n0
            have e2 : (xo == t) = false := by simp; omega
            have hi : isTh t = false := by simp [isTh]; omega
            clear hG
            simp only [takeR, takeE, takeX, hi, e1, Bool.true_and, Bool.false_and, Bool.and_true, Bool.and_false, Bool.false_eq_true, if_true, if_false, Nat.add_zero] at hK
            go_wp2_with fail
            refine hK.mono ?_
            rintro e w1 ⟨rfl, s', v', hT⟩
            clear hK
            go_wp2_with fail
            refine (now_turns hT).mono ?_
            rintro e w2 ⟨rfl, hT2⟩
            have hE : ∀ {W : World}, Kept (fun _ => False) w2 W → TRel w g r c m (k + 1) (q) s' v' xn xo W := fun kk => hT2.calm kk
            have HT : Hid (TRel w g r c m (k + 1) (q) s' v' xn xo (w2.alloc (.cells #[.int .i64 xn, .int .i64 xo] 34))) := hT2.calm (kept_alloc _ _)
            have hte := hT2.2.2.2.2.1.odd (by omega)
            have ht1 : (xo == 0) = false := by simp; omega
            have ht2 : (xo != 0) = true := by simp; omega
            have htn := hT2.2.2.1
            clear hT hT2 hE
            go_wp2
            go_roundw
            case rel => exact ⟨k + 1, q, s', v', xn, xo, rfl, rfl, rfl, by go_num, HL.out, HT.out⟩
            case measure => have := HL.out; simp [intOf]; omega
          · have g1 : (1 : Int) ≤ t := by omega
            by_cases h2 : 8 < t
            · have g2 : ¬ t ≤ (8 : Int) := by omega
              have e1 := n0
              have e2 : (xo == t) = false := by simp; omega
              have hi : isTh t = false := by simp [isTh]; omega
              clear hG
              simp only [takeR, takeE, takeX, hi, e1, Bool.true_and, Bool.false_and, Bool.and_true, Bool.and_false, Bool.false_eq_true, if_true, if_false, Nat.add_zero] at hK
              go_wp2_with fail
              refine hK.mono ?_
              rintro e w1 ⟨rfl, s', v', hT⟩
              clear hK
              go_wp2_with fail
              refine (now_turns hT).mono ?_
              rintro e w2 ⟨rfl, hT2⟩
              have hE : ∀ {W : World}, Kept (fun _ => False) w2 W → TRel w g r c m (k + 1) (q) s' v' xn xo W := fun kk => hT2.calm kk
              have HT : Hid (TRel w g r c m (k + 1) (q) s' v' xn xo (w2.alloc (.cells #[.int .i64 xn, .int .i64 xo] 34))) := hT2.calm (kept_alloc _ _)
              have hte := hT2.2.2.2.2.1.odd (by omega)
              have ht1 : (xo == 0) = false := by simp; omega
              have ht2 : (xo != 0) = true := by simp; omega
              have htn := hT2.2.2.1
              clear hT hT2 hE
              go_wp2
              go_roundw
              case rel => exact ⟨k + 1, q, s', v', xn, xo, rfl, rfl, rfl, by go_num, HL.out, HT.out⟩
              case measure => have := HL.out; simp [intOf]; omega
            · have g2 : t ≤ (8 : Int) := by omega
              have e1 := n0
              have hi : isTh t = true := by simp only [isTh, Bool.and_eq_true, decide_eq_true_eq]; omega
              clear hG
              simp only [takeR, takeE, takeX, hi, e1, Bool.true_and, Bool.false_and, Bool.and_true, Bool.and_false, Bool.false_eq_true, if_true, if_false, Nat.add_zero] at hK
              go_wp2_with fail
              refine hK.mono ?_
              rintro e w1 ⟨rfl, s', v', hT⟩
              clear hK
              go_wp2_with fail
              refine (now_turns hT).mono ?_
              rintro e w2 ⟨rfl, hT2⟩
              have hE : ∀ {W : World}, Kept (fun _ => False) w2 W → TRel w g r c m (k + 1) ((q + 1)) s' v' xn xo W := fun kk => hT2.calm kk
              have HT : Hid (TRel w g r c m (k + 1) ((q + 1)) s' v' xn xo (w2.alloc (.cells #[.int .i64 xn, .int .i64 xo] 34))) := hT2.calm (kept_alloc _ _)
              have hte := hT2.2.2.2.2.1.odd (by omega)
              have ht1 : (xo == 0) = false := by simp; omega
              have ht2 : (xo != 0) = true := by simp; omega
              have htn := hT2.2.2.1
              clear hT hT2 hE
              go_wp2
              go_roundw
              case rel => exact ⟨k + 1, (q + 1), s', v', xn, xo, rfl, rfl, by go_num, by go_num, HL.out, HT.out⟩
              case measure => have := HL.out; simp [intOf]; omega
    · have hke : ¬ (k : Int) < (len : Int) := by omega
      obtain ⟨hq, hw, _, _, _, hS⟩ := hT
      have hlog := log_st hS 2 rfl hw (by omega)
      clear hlt hk HS hw
      go_wp2_with fail
      refine hlog.mono ?_
      rintro e w2 ⟨v', rfl, hS2⟩
      have hown : w2.ownsRow 0 60 6 v' s.l.length (logCells s.l) := hS2.get 0 rfl
      obtain ⟨ga, ca, rfl⟩ := own_shape hown
      have hkk := hS2.same
      have HQ : Hid (s.l.length = q) := hq
      rw [hq] at *
      clear hlog hS hS2 hown hq
      go_wp2
      go_ret
      exact ⟨by simp, hkk⟩
end Go.Proofs.Ytflcmnkaponehaa
