/- RedoPlays step by step. -/
import Derived.Test.YtoejhbecogmdbaaDoesK
import Derived.Test.YtoejhbecogmdbaaOps
namespace Go.Proofs.Ytoejhbecogmdbaa
open Go.RowKit
set_option linter.unusedVariables false
set_option linter.unusedSimpArgs false

/-- Both logs and the document's. -/
def four (one two : Int) (p1 b1 p2 b2 q1 q2 : Nat) (v1 kv1 vv1 v2 kv2 vv2 : Value) (ps1 ps2 : List (Value × Value)) : List It :=
  [refI q2 two kv2 vv2 ps2, refI q1 one kv1 vv1 ps1, logA p2 two v2 b2 ps2, logA p1 one v1 b1 ps1]
def Four (w : World) (one two : Int) (p1 b1 p2 b2 q1 q2 : Nat) (wr : World) : Prop :=
  ∃ v1 kv1 vv1 v2 kv2 vv2 ps1 ps2, St w (four one two p1 b1 p2 b2 q1 q2 v1 kv1 vv1 v2 kv2 vv2 ps1 ps2) wr

section
variable {w W : World} {one two : Int} {p1 b1 p2 b2 q1 q2 : Nat} {v1 kv1 vv1 v2 kv2 vv2 : Value} {ps1 ps2 : List (Value × Value)}
theorem four_a (h : St w (four one two p1 b1 p2 b2 q1 q2 v1 kv1 vv1 v2 kv2 vv2 ps1 ps2) W) : LogA W p1 one v1 b1 ps1 := h.get 3 rfl
theorem four_b (h : St w (four one two p1 b1 p2 b2 q1 q2 v1 kv1 vv1 v2 kv2 vv2 ps1 ps2) W) : LogA W p2 two v2 b2 ps2 := h.get 2 rfl
theorem four_x (h : St w (four one two p1 b1 p2 b2 q1 q2 v1 kv1 vv1 v2 kv2 vv2 ps1 ps2) W) : RefAt W q1 one kv1 vv1 ps1 := h.get 1 rfl
theorem four_y (h : St w (four one two p1 b1 p2 b2 q1 q2 v1 kv1 vv1 v2 kv2 vv2 ps1 ps2) W) : RefAt W q2 two kv2 vv2 ps2 := h.get 0 rfl
/-- A step on the one pair or the other. -/
theorem step_a (h : St w (four one two p1 b1 p2 b2 q1 q2 v1 kv1 vv1 v2 kv2 vv2 ps1 ps2) W) (other : Bool) (kind k x : Int) (hwf : (Lit.int .i64 k).wf = true) :
    Calls Try.prog 8 #[.pointer (some ⟨p1, 0, none⟩), .pointer (some ⟨q1, 0, none⟩), .agg #[.bool other, .int .i64 kind, .int .i64 k, .int .i64 x]] W fun e w' => e = .returned (.bool true) ∧ Four w one two p1 b1 p2 b2 q1 q2 w' := by
  refine (does_any h (i := 3) (j := 1) rfl rfl (by omega) other kind k x hwf).mono ?_
  rintro e w' ⟨rfl, v', kv', vv', ps', hS⟩
  exact ⟨rfl, v', kv', vv', v2, kv2, vv2, ps', ps2, hS⟩
theorem step_b (h : St w (four one two p1 b1 p2 b2 q1 q2 v1 kv1 vv1 v2 kv2 vv2 ps1 ps2) W) (other : Bool) (kind k x : Int) (hwf : (Lit.int .i64 k).wf = true) :
    Calls Try.prog 8 #[.pointer (some ⟨p2, 0, none⟩), .pointer (some ⟨q2, 0, none⟩), .agg #[.bool other, .int .i64 kind, .int .i64 k, .int .i64 x]] W fun e w' => e = .returned (.bool true) ∧ Four w one two p1 b1 p2 b2 q1 q2 w' := by
  refine (does_any h (i := 2) (j := 0) rfl rfl (by omega) other kind k x hwf).mono ?_
  rintro e w' ⟨rfl, v', kv', vv', ps', hS⟩
  exact ⟨rfl, v1, kv1, vv1, v', kv', vv', ps1, ps', hS⟩
theorem keysOf_log {its : List It} {P : Nat} {most : Int} {v : Value} {bm : Nat} {ps : List (Value × Value)} (i : Nat) (hi : its[i]? = some (logA P most v bm ps)) : ∀ W, St w its W → Calls Try.prog 12 #[.pointer (some ⟨P, 0, none⟩)] W fun e w' => ∃ r, e = .returned r ∧ w'.ownsRow 0 3 1 r ps.length (ps.map Prod.fst) ∧ St w its w' := by
  intro W h
  refine (keysA_any (show LogA W P most v bm ps from h.get i hi)).mono ?_
  rintro e w' ⟨rfl, h1, h2⟩
  exact ⟨_, rfl, h1, h.calm h2⟩
theorem same_ref {its : List It} {Q : Nat} {most : Int} {kv vv : Value} {ps : List (Value × Value)} (i : Nat) (hi : its[i]? = some (refI Q most kv vv ps)) : ∀ W r, W.ownsRow 0 3 1 r ps.length (ps.map Prod.fst) → St w its W → Calls Try.prog 11 #[r, kv] W fun e w' => e = .returned (.bool true) ∧ St w its w' := by
  intro W r ho h
  have hr := (show RefAt W Q most kv vv ps from h.get i hi)
  refine (same_any ho hr.ownK ?_ hr.small).mono ?_
  · intro y hy
    obtain ⟨z, hz, rfl⟩ := List.mem_map.1 hy
    obtain ⟨a, ha, _⟩ := hr.keys z hz
    exact ⟨a, ha⟩
  · rintro e w' ⟨rfl, h2⟩
    exact ⟨rfl, h.calm h2⟩
end
theorem St.newRef {o w w' : World} {its : List It} {most : Int} (h : St o its w) (hl : RefAt w' w.heap.size most (.slice none 0 0) (.slice none 0 0) []) (k : Kept (fun _ => False) w w') : St o (refI w.heap.size most (.slice none 0 0) (.slice none 0 0) [] :: its) w' :=
  h.push (refI w.heap.size most (.slice none 0 0) (.slice none 0 0) []) k hl hl.nodup (by simp [refI, rfoot, Value.ownBlock])

set_option maxRecDepth 100000 in
set_option maxHeartbeats 4000000 in
theorem plays_walk (one two : Int) (a : Option Addr) (len cap : Nat) (ops : Nat → OpD) (w : World) (hs : ScriptAt w a len ops) (hlen : len ≤ 4398046511104) :
    Calls Try.prog 3 #[.int .i64 one, .int .i64 two, .slice a len cap] w fun e w' => e = .returned (.bool true) ∧ Kept (fun _ => False) w w' := by
  have HS : Hid (ScriptAt w a len ops) := hs
  clear hs
  go_enter Try.func3, Try.ntmps3
  go_wp2_with fail
  refine (up_any _).mono ?_
  rintro e wa ⟨rfl, hka⟩
  have hA := (St.nil w).calm hka
  clear hka
  by_cases h1 : 1 ≤ one ∧ one ≤ 4096
  · by_cases h2 : 1 ≤ two ∧ two ≤ 4096
    · go_wp2_with fail
      refine (newA_yes one wa h1.1 h1.2).mono ?_
      rintro e w1 ⟨rfl, hl, hk⟩
      have hS := hA.newLog hl hk
      clear hl hk hA
      generalize wa.heap.size + 1 = p1 at *
      generalize wa.heap.size = b1 at *
      go_wp2_with fail
      refine (newA_yes two w1 h2.1 h2.2).mono ?_
      rintro e w2 ⟨rfl, hl, hk⟩
      have hS := hS.newLog hl hk
      clear hl hk
      generalize w1.heap.size + 1 = p2 at *
      generalize w1.heap.size = b2 at *
      go_wp2_with fail
      refine (newR_yes one w2 h1.1 h1.2).mono ?_
      rintro e w3 ⟨rfl, hl, hk⟩
      have hS := hS.newRef hl hk
      clear hl hk
      generalize w2.heap.size = q1 at *
      go_wp2_with fail
      refine (newR_yes two w3 h2.1 h2.2).mono ?_
      rintro e w4 ⟨rfl, hl, hk⟩
      have hS := hS.newRef hl hk
      clear hl hk
      generalize w3.heap.size = q2 at *
      go_wp2_with fail
      go_loopw [16] (fun x wr => ∃ c : Nat, x = .int .i64 c ∧ c ≤ len ∧ Four w one two p1 b1 p2 b2 q1 q2 wr) (fun x _ => len - (intOf x).toNat)
      case atStart => exact ⟨0, rfl, Nat.zero_le _, _, _, _, _, _, _, _, _, hS⟩
      case round =>
        obtain ⟨c, rfl, hc, v1, kv1, vv1, v2, kv2, vv2, ps1, ps2, hF⟩ := hrel
        clear hS
        by_cases hlt : c < len
        · obtain ⟨bs, off, rfl, hop⟩ := HS.out.resolve_left (by omega)
          have hO := (hop c hlt).kept hF.same
          clear hop
          generalize ops c = oc at *
          obtain ⟨oo, kk, ok, ov⟩ := oc
          have d0 := hO.c0
          have d1 := hO.c1
          have d2 := hO.c2
          have d3 := hO.c3
          have hwf := hO.wf
          simp only at d0 d1 d2 d3 hwf
          clear hO
          have i0 : (0 : Int) ≤ c := Int.natCast_nonneg _
          have i1 : (c : Int) < len := by omega
          cases oo
          · as_aux_lemma =>
              have hD := step_a hF false kk ok ov hwf
              clear hF hwf
              go_wp2_with fail
              refine hD.mono ?_
              rintro e w5 ⟨rfl, v1, kv1, vv1, v2, kv2, vv2, ps1, ps2, hF⟩
              clear hD d0 d1 d2 d3
              obtain ⟨g1, s1, hk1⟩ := own_shape (four_x hF).ownK
              obtain ⟨g2, s2, hk2⟩ := own_shape (four_y hF).ownK
              have e1 := (four_x hF).c1
              have e2 := (four_y hF).c1
              rw [hk1] at e1
              rw [hk2] at e2
              have hLa : ∀ k, Calls Try.prog 9 #[.pointer (some ⟨p1, 0, none⟩)] (w5.drewN k) fun e w' => e = .returned (.int .i64 ps1.length) ∧ w' = w5.drewN k := fun k => lenA_any ((four_a hF).calm ((Kept.refl _ w5).drewN k))
              have hLb : ∀ k, Calls Try.prog 9 #[.pointer (some ⟨p2, 0, none⟩)] (w5.drewN k) fun e w' => e = .returned (.int .i64 ps2.length) ∧ w' = w5.drewN k := fun k => lenA_any ((four_b hF).calm ((Kept.refl _ w5).drewN k))
              have n1 : ((ps1.length : Int) != ps1.length) = false := by simp
              have n2 : ((ps2.length : Int) != ps2.length) = false := by simp
              have HF : Hid (∀ k, Four w one two p1 b1 p2 b2 q1 q2 (w5.drewN k)) := fun k => ⟨v1, kv1, vv1, v2, kv2, vv2, ps1, ps2, hF.calm ((Kept.refl _ w5).drewN k)⟩
              clear hk1 hk2 hF
              go_wp2_with fail
              go_quiet (first | (go_at_call 9; first | exact Calls.quiet_of_same (hLa _) | exact Calls.quiet_of_same (hLb _)))
              go_wp2
              go_roundw
              case rel => exact ⟨c + 1, by go_num, by omega, HF.out _⟩
              case measure => simp [intOf]; omega
          · as_aux_lemma =>
              have hD := step_b hF true kk ok ov hwf
              clear hF hwf
              go_wp2_with fail
              refine hD.mono ?_
              rintro e w5 ⟨rfl, v1, kv1, vv1, v2, kv2, vv2, ps1, ps2, hF⟩
              clear hD d0 d1 d2 d3
              obtain ⟨g1, s1, hk1⟩ := own_shape (four_x hF).ownK
              obtain ⟨g2, s2, hk2⟩ := own_shape (four_y hF).ownK
              have e1 := (four_x hF).c1
              have e2 := (four_y hF).c1
              rw [hk1] at e1
              rw [hk2] at e2
              have hLa : ∀ k, Calls Try.prog 9 #[.pointer (some ⟨p1, 0, none⟩)] (w5.drewN k) fun e w' => e = .returned (.int .i64 ps1.length) ∧ w' = w5.drewN k := fun k => lenA_any ((four_a hF).calm ((Kept.refl _ w5).drewN k))
              have hLb : ∀ k, Calls Try.prog 9 #[.pointer (some ⟨p2, 0, none⟩)] (w5.drewN k) fun e w' => e = .returned (.int .i64 ps2.length) ∧ w' = w5.drewN k := fun k => lenA_any ((four_b hF).calm ((Kept.refl _ w5).drewN k))
              have n1 : ((ps1.length : Int) != ps1.length) = false := by simp
              have n2 : ((ps2.length : Int) != ps2.length) = false := by simp
              have HF : Hid (∀ k, Four w one two p1 b1 p2 b2 q1 q2 (w5.drewN k)) := fun k => ⟨v1, kv1, vv1, v2, kv2, vv2, ps1, ps2, hF.calm ((Kept.refl _ w5).drewN k)⟩
              clear hk1 hk2 hF
              go_wp2_with fail
              go_quiet (first | (go_at_call 9; first | exact Calls.quiet_of_same (hLa _) | exact Calls.quiet_of_same (hLb _)))
              go_wp2
              go_roundw
              case rel => exact ⟨c + 1, by go_num, by omega, HF.out _⟩
              case measure => simp [intOf]; omega
        · obtain rfl : c = len := by omega
          clear hlt hc HS hlen
          obtain ⟨g1, s1, hk1⟩ := own_shape (four_x hF).ownK
          have hsm := (four_x hF).small
          go_wp2_with fail
          obtain ⟨wq, hwq⟩ : ∃ y, y = wr := ⟨_, rfl⟩
          rw [← hwq] at hF ⊢
          clear hwq
          go_loopw [18] (fun x wr => ∃ c : Nat, x = .int .i64 c ∧ c ≤ ps1.length ∧ St w (four one two p1 b1 p2 b2 q1 q2 v1 kv1 vv1 v2 kv2 vv2 ps1 ps2) wr) (fun x _ => ps1.length - (intOf x).toNat)
          case atStart => exact ⟨0, rfl, Nat.zero_le _, hF⟩
          case round =>
            obtain ⟨d, rfl, hd, hG⟩ := hrel
            clear hF
            have e1 := (four_x hG).c1
            rw [hk1] at e1
            by_cases hlt : d < ps1.length
            · as_aux_lemma =>
                have hx : ps1[d]? = some ps1[d] := List.getElem?_eq_getElem hlt
                obtain ⟨kc, hkc, hwf⟩ := (four_x hG).keys _ (List.mem_of_getElem? hx)
                obtain ⟨y, hy⟩ := (four_x hG).vals _ (List.mem_of_getElem? hx)
                have hx : ps1[d]? = some (.int .i64 kc, .int .i64 y) := by rw [hx, ← hkc, ← hy]
                clear hkc hy
                have hT := atA_ok (four_a hG) hx ⟨kc, rfl, hwf⟩
                have j0 : (0 : Int) ≤ d := Int.natCast_nonneg _
                have j1 : (d : Int) < ps1.length := by omega
                have HK : Hid (kv1 = .slice g1 ps1.length s1) := hk1
                clear hk1
                go_wp2_with fail
                refine hT.mono ?_
                rintro e w6 ⟨rfl, hk6⟩
                have hG := hG.calm hk6
                clear hT hk6 e1
                obtain ⟨gk, ck, hv1, f1⟩ := (four_x hG).keyAt hx
                obtain ⟨gv, cv, hv2, f2⟩ := (four_x hG).valAt hx
                have e1 := (four_x hG).c1
                have e2 := (four_x hG).c2
                rw [hv1] at e1
                rw [hv2] at e2
                simp only at f1 f2
                have HG : Hid (St w (four one two p1 b1 p2 b2 q1 q2 v1 kv1 vv1 v2 kv2 vv2 ps1 ps2) w6) := hG
                clear hv1 hv2 hG hx
                go_wp2
                go_roundw
                case rel => exact ⟨d + 1, by go_num, by omega, HG.out⟩
                case measure => simp [intOf]; omega
            · as_aux_lemma =>
                obtain rfl : d = ps1.length := by omega
                clear hlt hd
                have C1 : Hid (∀ W, St w (four one two p1 b1 p2 b2 q1 q2 v1 kv1 vv1 v2 kv2 vv2 ps1 ps2) W → W.cell? ⟨q1, 1, none⟩ = some kv1) := fun W h => (four_x h).c1
                have C2 : Hid (∀ W, St w (four one two p1 b1 p2 b2 q1 q2 v1 kv1 vv1 v2 kv2 vv2 ps1 ps2) W → W.cell? ⟨q2, 1, none⟩ = some kv2) := fun W h => (four_y h).c1
                have ka := keysOf_log (w := w) (its := four one two p1 b1 p2 b2 q1 q2 v1 kv1 vv1 v2 kv2 vv2 ps1 ps2) 3 rfl
                have kb := keysOf_log (w := w) (its := four one two p1 b1 p2 b2 q1 q2 v1 kv1 vv1 v2 kv2 vv2 ps1 ps2) 2 rfl
                have sx := same_ref (w := w) (its := four one two p1 b1 p2 b2 q1 q2 v1 kv1 vv1 v2 kv2 vv2 ps1 ps2) 1 rfl
                have sy := same_ref (w := w) (its := four one two p1 b1 p2 b2 q1 q2 v1 kv1 vv1 v2 kv2 vv2 ps1 ps2) 0 rfl
                have HG : Hid (St w (four one two p1 b1 p2 b2 q1 q2 v1 kv1 vv1 v2 kv2 vv2 ps1 ps2) wr) := hG
                clear hG
                go_wp2_with fail
                have hH := HG.out.drew
                clear hk1 e1 HG
                go_region_held3 (fun w' => w'.cell? ⟨q1, 1, none⟩ = some kv1 ∧ w'.cell? ⟨q2, 1, none⟩ = some kv2 ∧ St w (four one two p1 b1 p2 b2 q1 q2 v1 kv1 vv1 v2 kv2 vv2 ps1 ps2) w')
                  (first | exact ⟨C1.out _ hH, C2.out _ hH, hH⟩)
                  (first | (go_at_call_of 12 p1; refine (ka _ hH).mono ?_; rintro e w' ⟨r1, rfl, hI, hH⟩) | (go_at_call_of 12 p2; refine (kb _ hH).mono ?_; rintro e w' ⟨r2, rfl, hI, hH⟩) | (go_at_call_of 11 kv1; refine (sx _ _ hI hH).mono ?_; rintro e w' ⟨rfl, hH⟩) | (go_at_call_of 11 kv2; refine (sy _ _ hI hH).mono ?_; rintro e w' ⟨rfl, hH⟩))
                go_wp2
                go_ret
                exact ⟨rfl, hH.same⟩
    · as_aux_lemma =>
        go_wp2_with fail
        refine (newA_yes one wa h1.1 h1.2).mono ?_
        rintro e w1 ⟨rfl, hl, hk⟩
        have hA := hA.calm hk
        clear hl hk
        go_wp2_with fail
        refine (newA_no two w1 h2).mono ?_
        rintro e w2 ⟨rfl, rfl⟩
        go_wp2_with fail
        refine (newR_yes one w2 h1.1 h1.2).mono ?_
        rintro e w3 ⟨rfl, hl, hk⟩
        have hA := hA.calm hk
        clear hl hk
        go_wp2_with fail
        refine (newR_no two w3 h2).mono ?_
        rintro e w4 ⟨rfl, rfl⟩
        clear h1 h2
        go_wp2
        go_ret
        exact ⟨rfl, hA.same⟩
  · by_cases h2 : 1 ≤ two ∧ two ≤ 4096
    · as_aux_lemma =>
        go_wp2_with fail
        refine (newA_no one wa h1).mono ?_
        rintro e w1 ⟨rfl, rfl⟩
        go_wp2_with fail
        refine (newA_yes two w1 h2.1 h2.2).mono ?_
        rintro e w2 ⟨rfl, hl, hk⟩
        have hA := hA.calm hk
        clear hl hk
        go_wp2_with fail
        refine (newR_no one w2 h1).mono ?_
        rintro e w3 ⟨rfl, rfl⟩
        go_wp2_with fail
        refine (newR_yes two w3 h2.1 h2.2).mono ?_
        rintro e w4 ⟨rfl, hl, hk⟩
        have hA := hA.calm hk
        clear hl hk h1 h2
        go_wp2
        go_ret
        exact ⟨rfl, hA.same⟩
    · as_aux_lemma =>
        go_wp2_with fail
        refine (newA_no one wa h1).mono ?_
        rintro e w1 ⟨rfl, rfl⟩
        go_wp2_with fail
        refine (newA_no two w1 h2).mono ?_
        rintro e w2 ⟨rfl, rfl⟩
        go_wp2_with fail
        refine (newR_no one w2 h1).mono ?_
        rintro e w3 ⟨rfl, rfl⟩
        go_wp2_with fail
        refine (newR_no two w3 h2).mono ?_
        rintro e w4 ⟨rfl, rfl⟩
        clear h1 h2
        go_wp2
        go_ret
        exact ⟨rfl, hA.same⟩
end Go.Proofs.Ytoejhbecogmdbaa
