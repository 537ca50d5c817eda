/- Package opaque: behind. -/
import Derived.Test.YtnmlnjljmikmpaaOj
namespace Go.Proofs.Ytnmlnjljmikmpaa
open Go.RowKit Go.Shelf
set_option linter.unusedVariables false
set_option linter.unusedSimpArgs false
attribute [local go_sem ↓] Go.wp_at_zero Go.wp_at_succ

theorem perm_back3 (a b c : It) (L : List It) : (a :: b :: c :: L).Perm (c :: b :: a :: L) := (List.reverse_perm [c, b, a]).append_right L |> fun h => by simpa using h
set_option maxRecDepth 100000 in
set_option maxHeartbeats 4000000 in
theorem behind_any {o w : World} {its : List It} {i mb : Nat} {sa aa la : Option Addr} {sn sc an ac ln lc : Nat} {ls : List Pr} {ov : Int → Option Int} {br : Bool} {ps : List Pr} (h : St o its w) (hi : its[i]? = some (mapV mb ls)) (hv : ValR ls ov) (hl : ∀ Y W, St o (Y ++ its) W → RIn pC W la ln ps) (hln : ln ≤ 2932031007317) (hp : ∀ p ∈ ps, -9223372036854775808 ≤ p.1 ∧ p.1 ≤ 9223372036854775807) :
    Calls Try.prog 38 #[memV sa sn sc mb, gistV br aa an ac la ln lc] w fun e w' => ∃ (mb' : Nat) (ls' : List Pr) (Y : List It), e = .returned (memV sa sn sc mb') ∧ St o (Y ++ its) w' ∧ ValR ls' (ovL ov ps) ∧ ((Y = [] ∧ mb' = mb ∧ ls' = ls) ∨ Y[0]? = some (mapV mb' ls')) := by
  have HLN := hid (hl [] w h).1
  obtain ⟨es, clock, hb, hB⟩ : MapV w mb ls := h.get i hi
  have s1 := ((h.box #[.slice sa sn sc, .map (some mb)] 63).box #[.bool br, .slice aa an ac, .slice la ln lc] 67).box #[.slice none 0 0, .map none] 63
  simp only [alloc_size, Nat.add_assoc] at s1
  unfold memV gistV
  generalize hw1 : ((w.alloc (.cells #[.slice sa sn sc, .map (some mb)] 63)).alloc (.cells #[.bool br, .slice aa an ac, .slice la ln lc] 67)).alloc (.cells #[.slice none 0 0, .map none] 63) = w1 at *
  generalize hE : w.heap.size = E at *
  have c0 := s1.cell 2 rfl 0
  have c1 := s1.cell 2 rfl 1
  have g0 := s1.cell 1 rfl 0
  have g1 := s1.cell 1 rfl 1
  have g2 := s1.cell 1 rfl 2
  cases ln with
  | zero =>
    have hps : ps = [] := List.length_eq_zero_iff.1 HLN.out.symm
    subst hps
    have d0 := s1.cell 0 rfl 0
    have d1 := s1.cell 0 rfl 1
    have f0 := s1.frozen 0 rfl 0
    have f1 := s1.frozen 0 rfl 1
    have s2 := (s1.write 0 rfl 0 (.slice sa sn sc)).write 0 rfl 1 (.map (some mb))
    have e0 := s2.cell 0 rfl 0
    have e1 := s2.cell 0 rfl 1
    have HS := hid s2.pop.pop.pop
    clear s1 s2 h hl hp hb
    go_enter Try.func38, Try.ntmps38
    go_wp2_with (simp only [hw1, hE])
    refine bodyPost_ret (v := memV sa sn sc mb) ?_ rfl ⟨mb, ls, [], rfl, HS.out, hv, .inl ⟨rfl, rfl, rfl⟩⟩
    simp [results, Try.f38, go_sem, e0, e1]
  | succ ln =>
    have tz : (((ln + 1 : Nat) : Int) == 0) = false := by simp; omega
    have hcl : ∀ W, Kept (fun _ => False) w1 W → Calls Try.prog 53 #[.map (some mb)] W fun e w' => e = .returned (.map (some W.heap.size)) ∧ w' = W.alloc (.map es clock) := fun W k => AnyW.maps_Clone Try.cloneM mb es clock W (by
      have h1 := (s1.calm k).get (i + 3) (A := mapV mb ls) hi
      have hk := h.same
      have hlt : mb < w.heap.size := lt_of_heap hb
      have hkk : Kept (fun _ => False) w W := by
        have ha := ((kept_alloc w (.cells #[.slice sa sn sc, .map (some mb)] 63)).alloc (.cells #[.bool br, .slice aa an ac, .slice la (ln + 1) lc] 67)).alloc (.cells #[.slice none 0 0, .map none] 63)
        rw [hw1] at ha
        exact ha.trans k (fun _ _ f => f)
      rw [hkk.block mb hlt (fun f => f)]
      exact hb)
    have HS1 := hid s1
    have hk0 : Kept (fun _ => False) w1 w1.drew := (Kept.refl _ w1).drew
    have hk2 : Kept (fun _ => False) w1 (w1.alloc (.cells #[.slice none 0 0, .map none] 63)).drew := ((Kept.refl _ w1).alloc _).drew
    have c0' := (s1.drew).cell 2 rfl 0
    have c1' := (s1.drew).cell 2 rfl 1
    clear s1
    go_enter Try.func38, Try.ntmps38
    go_upto_region 3 with (simp only [hw1, hE])
    have HC : Hid (∀ W, Kept (fun _ => False) w1 W → W.cell? ⟨E, 0, none⟩ = some (.slice sa sn sc) ∧ W.cell? ⟨E, 1, none⟩ = some (.map (some mb))) := hid (fun W k => ⟨(HS1.out.calm k).cell 2 rfl 0, (HS1.out.calm k).cell 2 rfl 1⟩)
    refine (fun key : ?KEY ∧ True => ?main) ⟨?keyproof, trivial⟩
    case main =>
      go_region_held3 (fun W => W.cell? ⟨E, 0, none⟩ = some (.slice sa sn sc) ∧ W.cell? ⟨E, 1, none⟩ = some (.map (some mb))) (first | exact HC.out _ hk0 | exact HC.out _ hk2 | exact HC.out _ (hk0.alloc _) | exact HC.out _ (hk2.alloc _) | exact HC.out _ (((Kept.refl _ w1).drew.alloc _).alloc _) | exact HC.out _ ((Kept.refl _ w1).drew.alloc _)) (first | (go_at_call 53; with_reducible refine (hcl _ hk0).mono ?_; rintro e w3 ⟨rfl, rfl⟩) | (go_at_call 53; with_reducible refine (hcl _ hk2).mono ?_; rintro e w3 ⟨rfl, rfl⟩))
      · have HA : Hid (St o (boxI (w1.heap.size + 1) #[.slice sa sn sc, .map (some w1.heap.size)] 63 :: mapV w1.heap.size ls :: boxI (E + 2) #[.slice none 0 0, .map none] 63 :: boxI (E + 1) #[.bool br, .slice aa an ac, .slice la (ln + 1) lc] 67 :: boxI E #[.slice sa sn sc, .map (some mb)] 63 :: its) ((w1.alloc (.map es clock)).alloc (.cells #[.slice sa sn sc, .map (some w1.heap.size)] 63)).drew) := hid (by
          have t1 := HS1.out.push (mapV w1.heap.size ls) (kept_alloc w1 (.map es clock)) ⟨es, clock, heap_alloc_new w1 _, hB⟩ (by simp [mapV]) (by simp [mapV])
          have sb := t1.box #[.slice sa sn sc, .map (some w1.heap.size)] 63
          rw [alloc_size] at sb
          exact sb.drew)
        generalize ((w1.alloc (.map es clock)).alloc (.cells #[.slice sa sn sc, .map (some w1.heap.size)] 63)).drew = W5 at HA ⊢
        generalize w1.heap.size + 1 = BX at HA ⊢
        generalize w1.heap.size = MB at HA ⊢
        revert HA
        revert W5
        revert BX
        revert MB
        exact key.1
      · have HA : Hid (St o (boxI w1.heap.size #[.slice sa sn sc, .map (some (w1.heap.size + 1))] 63 :: mapV (w1.heap.size + 1) ls :: boxI (E + 2) #[.slice none 0 0, .map none] 63 :: boxI (E + 1) #[.bool br, .slice aa an ac, .slice la (ln + 1) lc] 67 :: boxI E #[.slice sa sn sc, .map (some mb)] 63 :: its) ((w1.alloc (.cells #[.slice sa sn sc, .map (some (w1.heap.size + 1))] 63)).alloc (.map es clock)).drew) := hid (by
          have sb := HS1.out.box #[.slice sa sn sc, .map (some (w1.heap.size + 1))] 63
          have hz := alloc_size w1 (.cells #[.slice sa sn sc, .map (some (w1.heap.size + 1))] 63)
          have t3 := sb.push (mapV (w1.alloc (.cells #[.slice sa sn sc, .map (some (w1.heap.size + 1))] 63)).heap.size ls) (kept_alloc _ (.map es clock)) ⟨es, clock, heap_alloc_new _ _, hB⟩ (by simp [mapV]) (by simp [mapV])
          rw [hz] at t3
          exact (t3.perm (List.Perm.swap _ _ _)).drew)
        generalize ((w1.alloc (.cells #[.slice sa sn sc, .map (some (w1.heap.size + 1))] 63)).alloc (.map es clock)).drew = W5 at HA ⊢
        generalize w1.heap.size + 1 = MB at HA ⊢
        generalize w1.heap.size = BX at HA ⊢
        revert HA
        revert W5
        revert BX
        revert MB
        exact key.1
    case keyproof =>
      intro MB BX W5 HA
      clear HC hcl hk0 hk2 HS1 c0 c1 c0' c1' g0 g1 g2
      have s5 := HA.out
      have b0 := s5.cell 0 rfl 0
      have b1 := s5.cell 0 rfl 1
      have g0 := s5.cell 3 rfl 0
      have g1 := s5.cell 3 rfl 1
      have g2 := s5.cell 3 rfl 2
      have hput := put_any (sa := sa) (sn := sn) (sc := sc) (br := br) (aa := aa) (an := an) (ac := ac) (lc := lc) (s5.perm (List.Perm.swap _ _ _)) hv (fun ls' W hs => hl [_, _, _, _, _] W hs) hln hp
      unfold memV gistV at hput
      clear s5
      go_upto_region 5 with (go_at_call 32; refine hput.mono ?_; rintro e w6 ⟨rfl, ls6, hv6, s6⟩; have HS6 := hid s6; have HV6 := hid hv6; clear s6 hv6)
      clear b0 b1 g0 g1 g2 hput
      have s6 := HS6.out
      have b0 := s6.cell 1 rfl 0
      have b1 := s6.cell 1 rfl 1
      have d0 := s6.cell 2 rfl 0
      have d1 := s6.cell 2 rfl 1
      have f0 := s6.frozen 2 rfl 0
      have f1 := s6.frozen 2 rfl 1
      have s7 := (s6.write 2 rfl 0 (.slice sa sn sc)).write 2 rfl 1 (.map (some MB))
      have e0 := s7.cell 2 rfl 0
      have e1 := s7.cell 2 rfl 1
      have HS7 := hid s7
      clear s6 s7
      go_wp2
      refine bodyPost_ret (v := memV sa sn sc MB) ?_ rfl ⟨MB, ls6, [_, _, _, _, _], rfl, HS7.out, HV6.out, .inr rfl⟩
      simp [results, Try.f38, go_sem, e0, e1]
end Go.Proofs.Ytnmlnjljmikmpaa
