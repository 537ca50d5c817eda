/- Package opaque: explains. -/
import Derived.Test.YtnmlnjljmikmpaaOh
namespace Go.Proofs.Ytnmlnjljmikmpaa
open Go.RowKit Go.Shelf
set_option linter.unusedVariables false
set_option linter.unusedSimpArgs false
attribute [local go_sem ↓] Go.wp_at_zero Go.wp_at_succ

abbrev prV (p : Pr) : Value := .agg #[.int .i64 p.1, .int .i64 p.2]
set_option maxRecDepth 100000 in
set_option maxHeartbeats 4000000 in
theorem other_any {w : World} {sa : Option Addr} {sn sc mb B : Nat} {start : List Int} {ls : List Pr} {ov : Int → Option Int} (hs : RIn iC w sa sn start) (hm : MapV w mb ls) (hv : ValR ls ov) (h0 : w.cell? ⟨B, 0, none⟩ = some (.slice sa sn sc)) (h1 : w.cell? ⟨B, 1, none⟩ = some (.map (some mb))) (p : Pr) (hp : -9223372036854775808 ≤ p.1 ∧ p.1 ≤ 9223372036854775807) (hsn : (sn : Int) ≤ 9223372036854775807) :
    Calls Try.prog 49 #[prV p, .pointer (some ⟨B, 0, none⟩)] w fun e w' => e = .returned (.bool (memO start ov p.1 != p.2)) ∧ Kept (fun _ => False) w w' := by
  obtain ⟨c, x⟩ := p
  simp only at hp
  have a1 := (St.nil w).box #[.int .i64 c, .int .i64 x] 86
  have hk1 := kept_alloc w (.cells #[.int .i64 c, .int .i64 x] 86)
  unfold prV
  simp only
  generalize hw1 : w.alloc (.cells #[.int .i64 c, .int .i64 x] 86) = w1 at *
  generalize hE : w.heap.size = E at *
  have hat := fun W (k : Kept (fun _ => False) w1 W) => at_any (sc := sc) (hs.kept (hk1.trans k (fun _ _ f => f))) (hm.kept (hk1.trans k (fun _ _ f => f))) hv c hp hsn
  unfold memV at hat
  generalize memO start ov c = z at *
  have HF : Hid (∀ W, Kept (fun _ => False) w1 W → W.cell? ⟨B, 0, none⟩ = some (.slice sa sn sc) ∧ W.cell? ⟨B, 1, none⟩ = some (.map (some mb)) ∧ W.cell? ⟨E, 0, none⟩ = some (.int .i64 c) ∧ W.cell? ⟨E, 1, none⟩ = some (.int .i64 x) ∧ Kept (fun _ => False) w W) := hid (fun W k => by
    have kk := hk1.trans k (fun _ _ f => f)
    have cl : ∀ {A : Addr} {u : Value}, w.cell? A = some u → W.cell? A = some u := fun {A u} h => by
      rw [World.cell?_of_block (kk.block A.block (World.block_lt_of_cell? w _ h) (fun f => f))]; exact h
    have s := a1.calm k
    exact ⟨cl h0, cl h1, s.cell 0 rfl 0, s.cell 0 rfl 1, kk⟩)
  clear a1 hk1 hs hm hv h0 h1
  go_enter Try.func49, Try.ntmps49
  go_upto_region 1 with (simp only [hw1, hE])
  obtain ⟨b0, b1, d0, d1, -⟩ := HF.out _ (Kept.refl _ w1).drew
  refine (fun key : ?KEY ∧ True => ?main) ⟨?keyproof, trivial⟩
  case main =>
    go_region_with (go_at_call 50; refine (hat _ (Kept.refl _ w1).drew).mono ?_; rintro e w6 ⟨rfl, hk6⟩; obtain ⟨b0, b1, d0, d1, -⟩ := HF.out _ ((Kept.refl _ w1).drew.trans hk6 (fun _ _ f => f)); have HK6 := hid ((Kept.refl _ w1).drew.trans hk6 (fun _ _ f => f)); clear hk6)
    all_goals
      clear b0 b1 d0 d1
      revert HK6
      revert w6
      exact key.1
  case keyproof =>
    intro w6 HK6
    go_wp2
    go_ret
    exact ⟨rfl, (HF.out _ HK6.out).2.2.2.2⟩
set_option maxRecDepth 100000 in
set_option maxHeartbeats 4000000 in
theorem indexP_any {w : World} {la : Option Addr} {n lc B : Nat} {ps : List Pr} {f : Pr → Bool} (hl : RIn pC w la n ps) (hn : n ≤ 2932031007317) (hO : ∀ W, Kept (fun _ => False) w W → ∀ p ∈ ps, Calls Try.prog 49 #[prV p, .pointer (some ⟨B, 0, none⟩)] W fun e w' => e = .returned (.bool (f p)) ∧ Kept (fun _ => False) W w') :
    Calls Try.prog 72 #[.slice la n lc, .func (.func 49) #[] #[.pointer (some ⟨B, 0, none⟩)]] w fun e w' => ∃ i : Int, e = .returned (.int .i64 i) ∧ decide (0 ≤ i) = ps.any f ∧ Kept (fun _ => False) w w' := by
  have HQ : Hid (∀ (i : Int) w', decide (0 ≤ i) = ps.any f → Kept (fun _ => False) w w' → (fun e w' => ∃ i : Int, e = .returned (.int .i64 i) ∧ decide (0 ≤ i) = ps.any f ∧ Kept (fun _ => False) w w') (Ending.returned (.int .i64 i)) w') := hid (fun i w' h1 h2 => ⟨i, rfl, h1, h2⟩)
  generalize (fun (e : Ending) (w' : World) => ∃ i : Int, e = .returned (.int .i64 i) ∧ decide (0 ≤ i) = ps.any f ∧ Kept (fun _ => False) w w') = Q at *
  have HL := hid hl
  have HLN := hid hl.1
  have HO := hid hO
  have hn1 : (n : Int) ≤ 2932031007317 := by omega
  clear hl hn hO
  go_enter Try.func72, Try.ntmps72
  go_wp2
  go_loopw [8] (fun i wr => ∃ (j : Nat), i = .int .i64 j ∧ j ≤ n ∧ (ps.take j).any f = false ∧ Kept (fun _ => False) w wr) (fun i _ => n - (intOf i).toNat)
  case atStart => exact ⟨0, rfl, Nat.zero_le _, rfl, Kept.refl _ _⟩
  case round =>
    obtain ⟨j, rfl, hj, ha, hk⟩ := hrel
    by_cases hlt : j < n
    · have hlt' : (j : Int) < (n : Int) := by omega
      have hj0 : (0 : Int) ≤ (j : Int) := by omega
      have hr := HL.out.kept hk
      obtain ⟨g, off, rfl⟩ := hr.addr (by omega)
      obtain ⟨x, hx⟩ : ∃ x, ps[j]? = some x := ⟨_, List.getElem?_eq_getElem (by have := HLN.out; omega)⟩
      have q := fun i u hu => hr.at (k := 2) (fun _ => rfl) hx i u hu
      have q0 := q 0 _ rfl
      have q1 := q 1 _ rfl
      rw [Nat.add_zero] at q0
      have hP := HO.out wr hk x (List.mem_of_getElem? hx)
      have htk := take_snoc hx
      obtain ⟨r, hsp⟩ := take_split hx
      cases hp : f x with
      | false =>
        rw [hp] at hP
        have HR : Hid ((ps.take (j + 1)).any f = false) := hid (by rw [htk, List.any_append, ha]; simp [hp])
        have HJ : Hid (j + 1 ≤ n ∧ n - (j + 1) < n - j) := hid ⟨by omega, by omega⟩
        have HK := hid hk
        clear q hr hx htk hsp hp ha hk HL HLN hlt
        obtain ⟨x0, x1⟩ := x
        unfold prV at hP
        simp only at hP q0 q1
        go_wp2_with (go_at_call 49; refine hP.mono ?_; rintro e w2 ⟨rfl, hk2⟩; have HK2 := hid (HK.out.trans hk2 (fun _ _ f => f)); clear hk2)
        go_roundw
        case rel => exact ⟨j + 1, by simp, HJ.out.1, HR.out, HK2.out⟩
        case measure => have := HJ.out.2; simp [intOf]; omega
      | true =>
        rw [hp] at hP
        have HR : Hid (∀ w', Kept (fun _ => False) w w' → Q (Ending.returned (.int .i64 j)) w') := hid (fun w' h => HQ.out _ _ (by rw [hsp, List.any_append, List.any_cons, hp]; simp) h)
        have HK := hid hk
        clear q hr hx htk hsp hp ha hk HL HLN hlt HQ
        obtain ⟨x0, x1⟩ := x
        unfold prV at hP
        simp only at hP q0 q1
        go_wp2_with (go_at_call 49; refine hP.mono ?_; rintro e w2 ⟨rfl, hk2⟩; have HK2 := hid (HK.out.trans hk2 (fun _ _ f => f)); clear hk2)
        exact HR.out _ HK2.out
    · have hlt' : ¬ (j : Int) < (n : Int) := by omega
      have e : ps.take j = ps := List.take_of_length_le (by have := HLN.out; omega)
      rw [e] at ha
      have HR := hid (HQ.out (-1) wr (by rw [ha]; rfl) hk)
      clear ha hk HQ HL HLN e
      go_wp2
      exact HR.out
theorem containsP_any {w : World} {la : Option Addr} {n lc B : Nat} {ps : List Pr} {f : Pr → Bool} (hl : RIn pC w la n ps) (hn : n ≤ 2932031007317) (hO : ∀ W, Kept (fun _ => False) w W → ∀ p ∈ ps, Calls Try.prog 49 #[prV p, .pointer (some ⟨B, 0, none⟩)] W fun e w' => e = .returned (.bool (f p)) ∧ Kept (fun _ => False) W w') :
    Calls Try.prog 51 #[.slice la n lc, .func (.func 49) #[] #[.pointer (some ⟨B, 0, none⟩)]] w fun e w' => e = .returned (.bool (ps.any f)) ∧ Kept (fun _ => False) w w' := by
  have h := indexP_any (lc := lc) (B := B) hl hn hO
  generalize ps.any f = b at *
  clear hl hO
  go_enter Try.func51, Try.ntmps51
  go_wp2_with (go_at_call 72; refine h.mono ?_; rintro e w2 ⟨i, rfl, hi, hk2⟩; have HK2 := hid hk2; have HI := hid hi; clear hk2 hi)
  go_ret
  exact ⟨by rw [← HI.out]; rfl, HK2.out⟩
abbrev gistV (br : Bool) (aa : Option Addr) (an ac : Nat) (la : Option Addr) (ln lc : Nat) : Value := .agg #[.bool br, .slice aa an ac, .slice la ln lc]
set_option maxRecDepth 100000 in
set_option maxHeartbeats 4000000 in
theorem explains_any {w : World} {sa aa la : Option Addr} {sn sc mb an ac ln lc : Nat} {start : List Int} {ls : List Pr} {ov : Int → Option Int} {br : Bool} {ps : List Pr} (hs : RIn iC w sa sn start) (hm : MapV w mb ls) (hv : ValR ls ov) (ha : RIn pC w aa an ps) (han : an ≤ 2932031007317) (hp : ∀ p ∈ ps, -9223372036854775808 ≤ p.1 ∧ p.1 ≤ 9223372036854775807) (hsn : (sn : Int) ≤ 9223372036854775807) :
    Calls Try.prog 31 #[memV sa sn sc mb, gistV br aa an ac la ln lc] w fun e w' => e = .returned (.bool (!br && !ps.any fun p => memO start ov p.1 != p.2)) ∧ Kept (fun _ => False) w w' := by
  have a1 := ((St.nil w).box #[.slice sa sn sc, .map (some mb)] 63).box #[.bool br, .slice aa an ac, .slice la ln lc] 67
  rw [alloc_size] at a1
  unfold memV gistV
  generalize hw1 : (w.alloc (.cells #[.slice sa sn sc, .map (some mb)] 63)).alloc (.cells #[.bool br, .slice aa an ac, .slice la ln lc] 67) = w1 at *
  generalize hE : w.heap.size = E at *
  have c0 := a1.cell 0 rfl 0
  have c1 := a1.cell 0 rfl 1
  have HK := hid a1.same
  have hcp := containsP_any (w := w1) (lc := ac) (B := E) (f := fun p => memO start ov p.1 != p.2) (ha.kept a1.same) han (fun W k p hpm => by
    have s := a1.calm k
    exact other_any (hs.kept s.same) (hm.kept s.same) hv (s.cell 1 rfl 0) (s.cell 1 rfl 1) p (hp p hpm) hsn)
  generalize (ps.any fun p => memO start ov p.1 != p.2) = b at *
  clear a1 hs hm hv ha hp
  cases br with
  | true =>
    go_enter Try.func31, Try.ntmps31
    go_wp2_with (simp only [hw1, hE])
    go_ret
    exact ⟨rfl, HK.out⟩
  | false =>
    go_enter Try.func31, Try.ntmps31
    go_wp2_with (first | simp only [hw1, hE] | (go_at_call 51; refine hcp.mono ?_; rintro e w2 ⟨rfl, hk2⟩; have HK2 := hid (HK.out.trans hk2 (fun _ _ f => f)); clear hk2))
    go_ret
    exact ⟨rfl, HK2.out⟩
end Go.Proofs.Ytnmlnjljmikmpaa
