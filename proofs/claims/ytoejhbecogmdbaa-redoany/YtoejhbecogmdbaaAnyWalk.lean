/- RedoAny step by step. -/
import Derived.Test.YtoejhbecogmdbaaAnyStep
import Derived.Deep.CutBlock
namespace Go.Proofs.Ytoejhbecogmdbaa
open Go.RowKit
set_option linter.unusedVariables false
set_option linter.unusedSimpArgs false

/-- A list of texts that came in. -/
def StrsIn (w : World) (la : Option Addr) (n : Nat) (ss : List ByteArray) : Prop :=
  n = ss.length ∧ (0 < n → ∃ g o, la = some ⟨g, o, none⟩ ∧ ∀ j, j < n → w.cell? ⟨g, o + j, none⟩ = some (.string (ss.getD j ByteArray.empty)))
theorem StrsIn.kept {w w' : World} {la : Option Addr} {n : Nat} {ss : List ByteArray} (h : StrsIn w la n ss) (k : Kept (fun _ => False) w w') : StrsIn w' la n ss := by
  refine ⟨h.1, fun h0 => ?_⟩
  obtain ⟨g, o, rfl, hc⟩ := h.2 h0
  refine ⟨g, o, rfl, fun j hj => ?_⟩
  have := hc j hj
  rw [World.cell?_of_block (k.block g (World.block_lt_of_cell? w _ this) (fun f => f))]
  exact this

theorem and_mask (z : Int) (k : Nat) (hk : k < 63) : bits .and .i64 z ((2 ^ k - 1 : Nat) : Int) = z % ((2 ^ k : Nat) : Int) := by
  show IntKind.i64.wrap ((BitVec.ofInt 64 z &&& BitVec.ofInt 64 ((2 ^ k - 1 : Nat) : Int)).toNat : Int) = _
  have hp : 2 ^ k < 2 ^ 63 := Nat.pow_lt_pow_right (by decide) hk
  have h2 : (BitVec.ofInt 64 ((2 ^ k - 1 : Nat) : Int)).toNat = 2 ^ k - 1 := by
    rw [BitVec.ofInt_natCast, BitVec.toNat_ofNat]; exact Nat.mod_eq_of_lt (by omega)
  rw [BitVec.toNat_and, h2, Nat.and_two_pow_sub_one_eq_mod, BitVec.toNat_ofInt]
  have hpos : 0 < 2 ^ k := Nat.two_pow_pos k
  have hz0 : 0 ≤ z % ((2 ^ k : Nat) : Int) := Int.emod_nonneg _ (by omega)
  have hz1 : z % ((2 ^ k : Nat) : Int) < ((2 ^ k : Nat) : Int) := Int.emod_lt_of_pos _ (by omega)
  have hd : ((2 ^ k : Nat) : Int) ∣ ((2 ^ 64 : Nat) : Int) := Int.natCast_dvd_natCast.2 (Nat.pow_dvd_pow 2 (by omega))
  have e : (((z % ((2 ^ 64 : Nat) : Int)).toNat % 2 ^ k : Nat) : Int) = z % ((2 ^ k : Nat) : Int) := by
    rw [Int.natCast_emod, Int.toNat_of_nonneg (Int.emod_nonneg _ (by decide)), Int.emod_emod_of_dvd _ hd]
  have e2 : (((z % (2 ^ 64 : Nat)).toNat % 2 ^ k : Nat) : Int) = z % ((2 ^ k : Nat) : Int) := e
  rw [e2, IntKind.wrap_i64]
  generalize z % ((2 ^ k : Nat) : Int) = r at hz0 hz1
  generalize 2 ^ k = P at *
  omega
theorem and15 (z : Int) : bits .and .i64 z 15 = z % 16 := and_mask z 4 (by decide)
theorem and1 (z : Int) : bits .and .i64 z 1 = z % 2 := and_mask z 1 (by decide)
theorem room_small (z : Int) : 1 ≤ wrap64 (1 + bits .and .i64 z 15) ∧ wrap64 (1 + bits .and .i64 z 15) ≤ 16 := by
  rw [and15]
  simp only [wrap64]
  omega
theorem odd_wf (z : Int) : (Lit.int .i64 (bits .and .i64 z 1)).wf = true := by
  rw [and1]
  exact WalkArith.wf_i64 (by omega)

theorem Try.info9 : (Try.prog.info? 9).map (fun i => (i.zero, i.size, i.bytes)) = some (some (.string { data := #[] }), 1, 16) := by kernel_rfl
set_option maxRecDepth 100000 in
set_option maxHeartbeats 8000000 in
theorem any_walk (most : Int) (la : Option Addr) (len cap : Nat) (ss : List ByteArray) (drop : Int) (w : World) (hS : StrsIn w la len ss) (hlen : len ≤ 17592186044416) (hss : ∀ s ∈ ss, s.size ≤ maxLen) :
    Calls Try.prog 4 #[.int .i64 most, .slice la len cap, .int .i64 drop] w fun e w' => e = .returned (.bool true) ∧ Kept (fun _ => False) w w' := by
  obtain ⟨i2, hi2, hy0, hy1, hy2⟩ := info_parts Try.info49
  obtain ⟨i3, hi3, hx0, hx1', hx2⟩ := info_parts Try.info9
  have HI : Hid (∀ w', Kept (fun _ => False) w w' → StrsIn w' la len ss) := fun w' k => hS.kept k
  have HL : Hid (len = ss.length ∧ ∀ s ∈ ss, s.size ≤ maxLen) := ⟨hS.1, hss⟩
  clear hS hss
  go_enter Try.func4, Try.ntmps4
  go_wp2_with fail
  refine (up_any _).mono ?_
  rintro e wa ⟨rfl, hka⟩
  have hA := (St.nil w).calm hka
  clear hka
  go_wp2_with fail
  obtain ⟨hN1, hN2⟩ := room_small most
  generalize wrap64 (1 + bits .and .i64 most 15) = N at *
  refine (newT_yes N wa hN1 (by omega)).mono ?_
  rintro e w1 ⟨rfl, hl, hk⟩
  have hS := hA.newLog hl hk
  clear hl hk hA
  generalize wa.heap.size + 1 = p at *
  generalize wa.heap.size = bm at *
  have hS0 : AnySt w p N (.slice none 0 0) bm (.slice none 0 0) (.slice none 0 0) [] w1 := by
    have h1 := hS.push (ownI 9 1 (.slice none 0 0) 0 []) (Kept.refl _ w1) (World.ownsRow_nil _ _ _ _) (own_nodup (.slice none 0 0)) (by simp [ownI, Value.ownBlock])
    have h2 := h1.push (ownI 49 2 (.slice none 0 0) 0 []) (Kept.refl _ w1) (World.ownsRow_nil _ _ _ _) (own_nodup (.slice none 0 0)) (by simp [ownI, Value.ownBlock])
    exact h2.push (valsI []) (Kept.refl _ w1) (fun e he => by simp at he) (by simp [valsI]) (by simp [valsI])
  clear hS
  go_wp2_with fail
  go_loopw [11, 12, 13] (fun xo xl xi wr => ∃ (c : Nat) (es : List En) (v : Value), xi = .int .i64 c ∧ c ≤ len ∧ AnySt w p N v bm xo xl es wr) (fun _ _ xi _ => len - (intOf xi).toNat)
  case atStart => exact ⟨0, [], _, rfl, Nat.zero_le _, hS0⟩
  case round =>
    obtain ⟨c, es, v, rfl, hc, hF⟩ := hrel
    clear hS0
    by_cases hlt : c < len
    · have hin := HI.out wr hF.same
      obtain ⟨gs, os, rfl, hcell⟩ := hin.2 (by omega)
      have hsz := HL.out
      have d1 := hcell c hlt
      have d2 := hcell (len - 1 - c) (by omega)
      have hx1 : (ss.getD c ByteArray.empty).size ≤ maxLen := hsz.2 _ (by
        rw [List.getD_eq_getElem?_getD, List.getElem?_eq_getElem (by omega)]
        exact List.getElem_mem _)
      clear hcell hin hsz
      generalize ss.getD c ByteArray.empty = s at *
      generalize ss.getD (len - 1 - c) ByteArray.empty = t at *
      have i0 : (0 : Int) ≤ c := Int.natCast_nonneg _
      have i1 : (c : Int) < len := by omega
      have hgl : gs < wr.heap.size := World.block_lt_of_cell? wr _ d1
      go_wp2_with fail
      go_region
      have hwf := odd_wf (s.size : Int)
      have hB := (hF.box #[.string s, .int .i64 (bits .and .i64 (s.size : Int) 1)] 49).drew
      generalize bits .and .i64 (s.size : Int) 1 = K at *
      have hOK : OKk (KV s K) := ⟨s, K, rfl, hx1, hwf⟩
      have d3 : (wr.alloc (.cells #[.string s, .int .i64 K] 49)).drew.cell? ⟨gs, os + (len - 1 - c), none⟩ = some (.string t) := (World.cell?_of_block (Below.heap_alloc wr _ gs hgl)).trans d2
      clear d1 d2 hF
      generalize (wr.alloc (.cells #[.string s, .int .i64 K] 49)).drew = wk at *
      generalize wr.heap.size = B at *
      obtain ⟨ga, ca, hu11⟩ := own_shape (any_ord hB.pop)
      obtain ⟨gb, cb, hu12⟩ := own_shape (any_txt hB.pop)
      subst hu11 hu12
      go_wp2_with fail
      have hsm := any_small hB.pop
      obtain ⟨wk0, hwk0⟩ : ∃ y, y = wk := ⟨_, rfl⟩
      rw [← hwk0]
      go_loopw [15, 16] (fun xa xj wz => ∃ d : Nat, xj = .int .i64 d ∧ d ≤ es.length ∧ Kept (fun _ => False) wk wz ∧ ((∃ (i : Nat) (e : En), i < d ∧ es[i]? = some e ∧ (e.s = s ∧ e.n = K) ∧ xa = .int .i64 i) ∨ ((∀ (i : Nat) (e : En), i < d → es[i]? = some e → ¬ (e.s = s ∧ e.n = K)) ∧ xa = .int .i64 (-1)))) (fun _ xj _ => es.length - (intOf xj).toNat)
      case atStart => exact ⟨0, rfl, Nat.zero_le _, hwk0 ▸ Kept.refl _ _, .inr ⟨fun i e hi => by omega, rfl⟩⟩
      case round =>
        obtain ⟨d, rfl, hd, hkz, hat⟩ := hrel
        have hC := hB.calm hkz
        by_cases hlt2 : d < es.length
        · as_aux_lemma =>
            have hx : es[d]? = some es[d] := List.getElem?_eq_getElem hlt2
            obtain ⟨go, co, hv, f1, f2⟩ := ord_at (any_ord hC.pop) hx
            cases hv
            have k0 : wr.drew.cell? ⟨B, 0, none⟩ = some (.string s) := hC.cell 0 rfl 0
            have k1 : wr.drew.cell? ⟨B, 1, none⟩ = some (.int .i64 K) := hC.cell 0 rfl 1
            have f1' : wr.drew.cell? ⟨go, d * 2, none⟩ = some (.string es[d].s) := f1
            have f2' : wr.drew.cell? ⟨go, d * 2 + 1, none⟩ = some (.int .i64 es[d].n) := f2
            have hEq := eqK
            have j0 : (0 : Int) ≤ d := Int.natCast_nonneg _
            have j1 : (d : Int) < es.length := by omega
            have hap := (any_log hC.pop).map
            have HA : Hid (∀ (i : Nat) (e : En), i < d → es[i]? = some e → e.s = es[d].s ∧ e.n = es[d].n → False) := by
              intro i e hi he hee
              obtain ⟨f, _, hI⟩ := hap
              have := hI.inj (pair_at he) (pair_at hx) (by rw [hee.1, hee.2])
              omega
            have HX : Hid (es[d]? = some es[d]) := hx
            clear hx hC hB f1 f2 hap
            generalize es[d] = ed at *
            cases hq : keq ed.s s ed.n K
            · have hne : ¬ (ed.s = s ∧ ed.n = K) := fun h => by rw [(keq_iff _ _ _ _).2 h] at hq; cases hq
              have HT : Hid ((∃ (i : Nat) (e : En), i < d + 1 ∧ es[i]? = some e ∧ (e.s = s ∧ e.n = K) ∧ u15 = .int .i64 i) ∨ ((∀ (i : Nat) (e : En), i < d + 1 → es[i]? = some e → ¬ (e.s = s ∧ e.n = K)) ∧ u15 = .int .i64 (-1))) := by
                rcases hat with ⟨i, e, a1, a2, a3, a4⟩ | ⟨a1, a2⟩
                · exact .inl ⟨i, e, by omega, a2, a3, a4⟩
                · refine .inr ⟨fun i e hi he => ?_, a2⟩
                  by_cases h0 : i = d
                  · subst h0
                    rw [HX.out] at he
                    cases he
                    exact hne
                  · exact a1 i e (by omega) he
              clear hat hne
              go_wp2_with fail
              go_region
              all_goals
                go_wp2
                go_roundw
                case rel => exact ⟨d + 1, by go_num, by omega, hkz.drew, HT.out⟩
                case measure => simp [intOf]; omega
            · obtain ⟨hq1, hq2⟩ := (keq_iff _ _ _ _).1 hq
              have HT : Hid ((∃ (i : Nat) (e : En), i < d + 1 ∧ es[i]? = some e ∧ (e.s = s ∧ e.n = K) ∧ Value.int .i64 d = .int .i64 i) ∨ ((∀ (i : Nat) (e : En), i < d + 1 → es[i]? = some e → ¬ (e.s = s ∧ e.n = K)) ∧ Value.int .i64 d = .int .i64 (-1))) := .inl ⟨d, ed, by omega, HX.out, ⟨hq1, hq2⟩, rfl⟩
              clear hat hq1 hq2
              go_wp2_with fail
              go_region
              all_goals
                go_wp2
                go_roundw
                case rel => exact ⟨d + 1, by go_num, by omega, hkz.drew, HT.out⟩
                case measure => simp [intOf]; omega
        · obtain rfl : d = es.length := by omega
          have k0 : wr.cell? ⟨B, 0, none⟩ = some (.string s) := hC.cell 0 rfl 0
          have k1 : wr.cell? ⟨B, 1, none⟩ = some (.int .i64 K) := hC.cell 0 rfl 1
          have d4 : wr.cell? ⟨gs, os + (len - 1 - c), none⟩ = some (.string t) := (World.cell?_of_block (hkz.block gs (World.block_lt_of_cell? wk _ d3) (fun f => f))).trans d3
          have hix : (len : Int) - 1 - c = ((len - 1 - c : Nat) : Int) := by omega
          have hi0 : (0 : Int) ≤ ((len - 1 - c : Nat) : Int) := Int.natCast_nonneg _
          have hi1 : ((len - 1 - c : Nat) : Int) < len := by omega
          clear hkz hB d3
          generalize len - 1 - c = r at *
          by_cases hdr : (bits .and .i64 (c : Int) 7 == bits .and .i64 drop 7) = true
          · rcases hat with ⟨i, e, hi, he, ⟨hs1, hs2⟩, hu⟩ | ⟨hno, hu⟩
            · subst hu hs1 hs2
              have hD := drop_at hC.pop he
              have j0 : (0 : Int) ≤ i := Int.natCast_nonneg _
              have j1 : (i : Int) + 1 ≤ es.length := by omega
              have j2 : ¬ (i : Int) < 0 := by omega
              have j3 : (0 : Int) ≤ (i : Int) + 1 := by omega
              have j4 : (i : Int) ≤ (i : Int) + 1 := by omega
              obtain ⟨go, co, hv1, _⟩ := ord_at (any_ord hC.pop) he
              obtain ⟨gt, ct, hv2, _⟩ := txt_at (any_txt hC.pop) he
              cases hv1
              cases hv2
              have hco : es.length ≤ ca := by
                rcases own_forms (any_ord hC.pop) with ⟨h1, _⟩ | ⟨g', cap', h1, _, _, hc⟩
                · cases h1
                · cases h1; exact hc
              have hct : es.length ≤ cb := by
                rcases own_forms (any_txt hC.pop) with ⟨h1, _⟩ | ⟨g', cap', h1, _, _, hc⟩
                · cases h1
                · cases h1; exact hc
              have HLE : Hid ((es.eraseIdx i).length = i + (es.length - (i + 1))) := by
                show _ = _
                rw [List.length_eraseIdx, if_pos hi]
                omega
              clear hC
              go_wp2_with fail
              refine hD.mono ?_
              rintro e5 w5 ⟨rfl, v5, hF⟩
              clear hD k0 k1 d4 he
              have hwr : IntKind.i64.wrap ((i : Int) + 1) = (i : Int) + 1 := by rw [IntKind.wrap_i64]; omega
              have ho5 : w5.ownsRow 0 49 2 (.slice (some ⟨go, 0, none⟩) es.length ca) es.length (es.flatMap En.kc) := hF.get 1 rfl
              have ht5 : w5.ownsRow 0 9 1 (.slice (some ⟨gt, 0, none⟩) es.length cb) es.length (es.flatMap En.tc) := hF.get 2 rfl
              have hgo : go < w5.heap.size := (ho5.lt go rfl).2
              have hgt : gt < w5.heap.size := (ht5.lt gt rfl).2
              have L1 : ((es.flatMap En.kc).take (i * 2)).length = i * 2 := by rw [List.length_take, fm_length kc_len]; omega
              have L2 : ((es.flatMap En.kc).drop ((i + 1) * 2)).length = (es.length - (i + 1)) * 2 := by rw [List.length_drop, fm_length kc_len]; omega
              have L3 : ((es.flatMap En.tc).take (i * 1)).length = i * 1 := by rw [List.length_take, fm_length tc_len]; omega
              have L4 : ((es.flatMap En.tc).drop ((i + 1) * 1)).length = (es.length - (i + 1)) * 1 := by rw [List.length_drop, fm_length tc_len]; omega
              have O1 : ∀ u ∈ (es.flatMap En.kc).take (i * 2), u.oneCell' = true := fun u hu => kc_one _ (List.mem_of_mem_take hu)
              have O2 : ∀ u ∈ (es.flatMap En.kc).drop ((i + 1) * 2), u.oneCell' = true := fun u hu => kc_one _ (List.mem_of_mem_drop hu)
              have O3 : ∀ u ∈ (es.flatMap En.tc).take (i * 1), u.oneCell' = true := fun u hu => tc_one _ (List.mem_of_mem_take hu)
              have O4 : ∀ u ∈ (es.flatMap En.tc).drop ((i + 1) * 1), u.oneCell' = true := fun u hu => tc_one _ (List.mem_of_mem_drop hu)
              have HO1 : ((w5.alloc (.cells #[] 49)).drew).ownsRow 0 49 2 (.slice (some ⟨w5.heap.size, 0, none⟩) 0 0) 0 [] := (World.ownsRow_lit w5 #[] 0 (Nat.zero_le _) (by unfold maxLen; omega) rfl).drew
              have N1 : ∀ (j : Nat) (u : Value), ((es.flatMap En.kc).take (i * 2))[j]? = some u → ((w5.alloc (.cells #[] 49)).drew).cell? ((⟨go, 0, none⟩ : Addr).add j) = some u := fun j u hu => (World.cell?_of_block (by rw [Addr.add_lit]; exact Below.heap_alloc w5 _ go hgo)).trans (ho5.cells rfl j u (take_some hu))
              have HN2 : Hid (∀ w6, ((w5.alloc (.cells #[] 49)).drew).grownBy w6 (some w5.heap.size) → ∀ (j : Nat) (u : Value), ((es.flatMap En.kc).drop ((i + 1) * 2))[j]? = some u → w6.cell? ((⟨go, (i + 1) * 2, none⟩ : Addr).add j) = some u) := fun w6 hg j u hu => by
                rw [List.getElem?_drop] at hu
                have := (List.getElem?_eq_some_iff.1 hu).1
                rw [fm_length kc_len] at this
                rw [Addr.add_lit]
                refine (World.cell?_of_block ((hg.block go (by simp; omega) (by simp; omega)).trans (Below.heap_alloc w5 _ go hgo))).trans ((ho5.cellAt _ this).trans hu)
              have HK : Hid (∀ w6 g6 w7 g7, ((w5.alloc (.cells #[] 49)).drew).grownBy w6 (some w5.heap.size) → (g6 = w5.heap.size ∨ g6 = (w5.alloc (.cells #[] 49)).drew.heap.size) → w6.grownBy w7 (some g6) → (g7 = g6 ∨ g7 = w6.heap.size) → Kept (fun _ => False) w5 w7 ∧ w5.heap.size ≤ g7) := by
                intro w6 g6 w7 g7 a1 a2 a3 a4
                have s1 := a1.size
                have s2 : (w5.alloc (.cells #[] 49)).drew.heap.size = w5.heap.size + 1 := by simp
                have b6 : w5.heap.size ≤ g6 := by omega
                exact ⟨((kept_alloc w5 (.cells #[] 49)).drew.grown a1 (fun b hb => by simp at hb; exact .inr (by omega))).grown a3 (fun b hb => by simp at hb; exact .inr (by omega)), by omega⟩
              have H7 : Hid (∀ w7 g7 c7, Kept (fun _ => False) w5 w7 → w5.heap.size ≤ g7 → w7.ownsRow 0 49 2 (.slice (some ⟨g7, 0, none⟩) (0 + i + (es.length - (i + 1))) c7) (0 + i + (es.length - (i + 1))) ([] ++ (es.flatMap En.kc).take (i * 2) ++ (es.flatMap En.kc).drop ((i + 1) * 2)) →
                  St w [valsI (es.eraseIdx i), ownI 49 2 (.slice (some ⟨g7, 0, none⟩) (i + (es.length - (i + 1))) c7) (es.eraseIdx i).length ((es.eraseIdx i).flatMap En.kc), ownI 9 1 (.slice (some ⟨gt, 0, none⟩) es.length cb) es.length (es.flatMap En.tc), logI Try.prog 80 85 3 49 OKk p N v5 bm ((es.eraseIdx i).map En.pair)] w7) := by
                intro w7 g7 c7 a1 a2 a3
                rw [Nat.zero_add, List.nil_append] at a3
                rw [HLE.out, fm_erase kc_len hi]
                exact hF.rowGrown 1 rfl a1.calm a3 (fun b hb => .inr (by simp [Value.ownBlock] at hb; omega))
              have H9 : Hid (∀ w7 v7 w9 g9 c9, St w [valsI (es.eraseIdx i), ownI 49 2 v7 (es.eraseIdx i).length ((es.eraseIdx i).flatMap En.kc), ownI 9 1 (.slice (some ⟨gt, 0, none⟩) es.length cb) es.length (es.flatMap En.tc), logI Try.prog 80 85 3 49 OKk p N v5 bm ((es.eraseIdx i).map En.pair)] w7 → Kept (fun _ => False) w7 w9 → w7.heap.size ≤ g9 → w9.ownsRow 0 9 1 (.slice (some ⟨g9, 0, none⟩) (0 + i + (es.length - (i + 1))) c9) (0 + i + (es.length - (i + 1))) ([] ++ (es.flatMap En.tc).take (i * 1) ++ (es.flatMap En.tc).drop ((i + 1) * 1)) →
                  AnySt w p N v5 bm v7 (.slice (some ⟨g9, 0, none⟩) (i + (es.length - (i + 1))) c9) (es.eraseIdx i) w9) := by
                intro w7 v7 w9 g9 c9 h7 a1 a2 a3
                rw [Nat.zero_add, List.nil_append] at a3
                have := h7.rowGrown 2 rfl (v' := .slice (some ⟨g9, 0, none⟩) (i + (es.length - (i + 1))) c9) (n' := (es.eraseIdx i).length) (xs' := (es.eraseIdx i).flatMap En.tc) a1.calm (by rw [HLE.out, fm_erase tc_len hi]; exact a3) (fun b hb => .inr (by simp [Value.ownBlock] at hb; omega))
                exact this
              have HN3 : Hid (∀ w7, Kept (fun _ => False) w5 w7 → (((w7.alloc (.cells #[] 9)).drew).ownsRow 0 9 1 (.slice (some ⟨w7.heap.size, 0, none⟩) 0 0) 0 []) ∧ (∀ (j : Nat) (u : Value), ((es.flatMap En.tc).take (i * 1))[j]? = some u → ((w7.alloc (.cells #[] 9)).drew).cell? ((⟨gt, 0, none⟩ : Addr).add j) = some u) ∧
                  (∀ w8, ((w7.alloc (.cells #[] 9)).drew).grownBy w8 (some w7.heap.size) → ∀ (j : Nat) (u : Value), ((es.flatMap En.tc).drop ((i + 1) * 1))[j]? = some u → w8.cell? ((⟨gt, (i + 1), none⟩ : Addr).add j) = some u) ∧
                  (∀ w8 g8 w9 g9, ((w7.alloc (.cells #[] 9)).drew).grownBy w8 (some w7.heap.size) → (g8 = w7.heap.size ∨ g8 = (w7.alloc (.cells #[] 9)).drew.heap.size) → w8.grownBy w9 (some g8) → (g9 = g8 ∨ g9 = w8.heap.size) → Kept (fun _ => False) w7 w9 ∧ w7.heap.size ≤ g9)) := by
                intro w7 hk7
                have ht7 : w7.ownsRow 0 9 1 (.slice (some ⟨gt, 0, none⟩) es.length cb) es.length (es.flatMap En.tc) := own_loc ht5 (fun b hb => hk7.block b ((ht5.lt b hb).2) (fun f => f))
                have hg7 : gt < w7.heap.size := Nat.lt_of_lt_of_le hgt hk7.size
                refine ⟨(World.ownsRow_lit w7 #[] 0 (Nat.zero_le _) (by unfold maxLen; omega) rfl).drew, fun j u hu => (World.cell?_of_block (by rw [Addr.add_lit]; exact Below.heap_alloc w7 _ gt hg7)).trans (ht7.cells rfl j u (take_some hu)), ?_, ?_⟩
                · intro w8 hg j u hu
                  rw [List.getElem?_drop, Nat.mul_one] at hu
                  have := (List.getElem?_eq_some_iff.1 hu).1
                  rw [fm_length tc_len] at this
                  rw [Addr.add_lit]
                  exact (World.cell?_of_block ((hg.block gt (by simp; omega) (by simp; omega)).trans (Below.heap_alloc w7 _ gt hg7))).trans ((ht7.cellAt _ (by omega)).trans hu)
                · intro w8 g8 w9 g9 a1 a2 a3 a4
                  have s1 := a1.size
                  have s2 : (w7.alloc (.cells #[] 9)).drew.heap.size = w7.heap.size + 1 := by simp
                  have b6 : w7.heap.size ≤ g8 := by omega
                  exact ⟨((kept_alloc w7 (.cells #[] 9)).drew.grown a1 (fun b hb => by simp at hb; exact .inr (by omega))).grown a3 (fun b hb => by simp at hb; exact .inr (by omega)), by omega⟩
              have ELA : Hid (ca = i + 1 → ((es.flatMap En.kc).drop ((i + 1) * 2)) = []) := fun h => by
                rw [List.drop_eq_nil_iff, fm_length kc_len]; omega
              have ELB : Hid (cb = i + 1 → ((es.flatMap En.tc).drop ((i + 1) * 1)) = []) := fun h => by
                rw [List.drop_eq_nil_iff, fm_length tc_len]; omega
              have j5 : (i : Int) ≤ ca := by omega
              have j6 : (es.length : Int) ≤ ca := by omega
              have j7 : (i : Int) ≤ cb := by omega
              have j8 : (es.length : Int) ≤ cb := by omega
              have HC : Hid (es.length ≤ ca ∧ es.length ≤ cb ∧ i < es.length) := ⟨hco, hct, hi⟩
              clear hF ho5 ht5 hgo hgt hco hct
              by_cases hca : ca = i + 1
              · by_cases hcb : cb = i + 1
                · skip
                  subst hca; subst hcb
                  go_wp2_with fail
                  go_region_law (first
                    | (refine step_append_all (by rfl) (.tmp 90) (.tmp 93) 50 (by rfl) 49 i2 _ 2 24 Try.underlying50 hi2 hy0 hy1 hy2 rfl (by omega) w5.heap.size 0 0 [] (by simp [Act.eval, Act.put]) HO1 ⟨go, 0, none⟩ i (i + 1) ((es.flatMap En.kc).take (i * 2)) (by simp [Act.eval, Act.put]) L1 N1 O1 (by unfold maxLen; omega) (by omega) ?_; intro g6 c6 w6 ho6 hg6 ha6)
                    | (refine step_append_all (by rfl) (.tmp 94) (.tmp 98) 50 (by rfl) 49 i2 _ 2 24 Try.underlying50 hi2 hy0 hy1 hy2 rfl (by omega) g6 (0 + i) c6 ([] ++ (es.flatMap En.kc).take (i * 2)) (by simp [Act.eval, Act.put]) ho6 ⟨go, 0, none⟩ (es.length - (i + 1)) 0 ((es.flatMap En.kc).drop ((i + 1) * 2)) (by simp [Act.eval, Act.put]) L2 (by rw [ELA.out (by trivial)]; simp) O2 (by unfold maxLen; omega) (by omega) ?_; intro g7 c7 w7 ho7 hg7 ha7))
                  obtain ⟨hk7, hb7⟩ := HK.out w6 g6 w7 g7 hg6 ha6 hg7 ha7
                  have hS7 := H7.out w7 g7 c7 hk7 hb7 ho7
                  have HO3 := (HN3.out w7 hk7).1
                  have N3 := (HN3.out w7 hk7).2.1
                  clear HO1 N1
                  go_wp2_with fail
                  go_region_law (first
                    | (refine step_append_all (by rfl) (.tmp 100) (.tmp 103) 44 (by rfl) 9 i3 _ 1 16 Try.underlying44 hi3 hx0 hx1' hx2 rfl (by omega) w7.heap.size 0 0 [] (by simp [Act.eval, Act.put]) HO3 ⟨gt, 0, none⟩ i (i + 1) ((es.flatMap En.tc).take (i * 1)) (by simp [Act.eval, Act.put]) L3 N3 O3 (by unfold maxLen; omega) (by omega) ?_; intro g8 c8 w8 ho8 hg8 ha8)
                    | (refine step_append_all (by rfl) (.tmp 104) (.tmp 108) 44 (by rfl) 9 i3 _ 1 16 Try.underlying44 hi3 hx0 hx1' hx2 rfl (by omega) g8 (0 + i) c8 ([] ++ (es.flatMap En.tc).take (i * 1)) (by simp [Act.eval, Act.put]) ho8 ⟨gt, 0, none⟩ (es.length - (i + 1)) 0 ((es.flatMap En.tc).drop ((i + 1) * 1)) (by simp [Act.eval, Act.put]) L4 (by rw [ELB.out (by trivial)]; simp) O4 (by unfold maxLen; omega) (by omega) ?_; intro g9 c9 w9 ho9 hg9 ha9))
                  obtain ⟨hk9, hb9⟩ := (HN3.out w7 hk7).2.2.2 w8 g8 w9 g9 hg8 ha8 hg9 ha9
                  have HR : Hid (AnySt w p N v5 bm (.slice (some ⟨g7, 0, none⟩) (i + (es.length - (i + 1))) c7) (.slice (some ⟨g9, 0, none⟩) (i + (es.length - (i + 1))) c9) (es.eraseIdx i) w9) := H9.out w7 _ w9 g9 c9 hS7 hk9 hb9 ho9
                  clear hS7 HO3 N3
                  go_wp2
                  go_roundw
                  case rel => exact ⟨c + 1, es.eraseIdx i, v5, by go_num, by omega, HR.out⟩
                  case measure => simp [intOf]; omega
                · skip
                  subst hca
                  go_wp2_with fail
                  go_region_law (first
                    | (refine step_append_all (by rfl) (.tmp 90) (.tmp 93) 50 (by rfl) 49 i2 _ 2 24 Try.underlying50 hi2 hy0 hy1 hy2 rfl (by omega) w5.heap.size 0 0 [] (by simp [Act.eval, Act.put]) HO1 ⟨go, 0, none⟩ i (i + 1) ((es.flatMap En.kc).take (i * 2)) (by simp [Act.eval, Act.put]) L1 N1 O1 (by unfold maxLen; omega) (by omega) ?_; intro g6 c6 w6 ho6 hg6 ha6)
                    | (refine step_append_all (by rfl) (.tmp 94) (.tmp 98) 50 (by rfl) 49 i2 _ 2 24 Try.underlying50 hi2 hy0 hy1 hy2 rfl (by omega) g6 (0 + i) c6 ([] ++ (es.flatMap En.kc).take (i * 2)) (by simp [Act.eval, Act.put]) ho6 ⟨go, 0, none⟩ (es.length - (i + 1)) 0 ((es.flatMap En.kc).drop ((i + 1) * 2)) (by simp [Act.eval, Act.put]) L2 (by rw [ELA.out (by trivial)]; simp) O2 (by unfold maxLen; omega) (by omega) ?_; intro g7 c7 w7 ho7 hg7 ha7))
                  obtain ⟨hk7, hb7⟩ := HK.out w6 g6 w7 g7 hg6 ha6 hg7 ha7
                  have hS7 := H7.out w7 g7 c7 hk7 hb7 ho7
                  have HO3 := (HN3.out w7 hk7).1
                  have N3 := (HN3.out w7 hk7).2.1
                  clear HO1 N1
                  go_wp2_with fail
                  go_region_law (first
                    | (refine step_append_all (by rfl) (.tmp 100) (.tmp 103) 44 (by rfl) 9 i3 _ 1 16 Try.underlying44 hi3 hx0 hx1' hx2 rfl (by omega) w7.heap.size 0 0 [] (by simp [Act.eval, Act.put]) HO3 ⟨gt, 0, none⟩ i cb ((es.flatMap En.tc).take (i * 1)) (by simp [Act.eval, Act.put]) L3 N3 O3 (by unfold maxLen; omega) (by omega) ?_; intro g8 c8 w8 ho8 hg8 ha8)
                    | (refine step_append_all (by rfl) (.tmp 104) (.tmp 108) 44 (by rfl) 9 i3 _ 1 16 Try.underlying44 hi3 hx0 hx1' hx2 rfl (by omega) g8 (0 + i) c8 ([] ++ (es.flatMap En.tc).take (i * 1)) (by simp [Act.eval, Act.put]) ho8 ⟨gt, i + 1, none⟩ (es.length - (i + 1)) (cb - (i + 1)) ((es.flatMap En.tc).drop ((i + 1) * 1)) (by simp [Act.eval, Act.put]) L4 ((HN3.out w7 hk7).2.2.1 w8 hg8) O4 (by unfold maxLen; omega) (by omega) ?_; intro g9 c9 w9 ho9 hg9 ha9))
                  obtain ⟨hk9, hb9⟩ := (HN3.out w7 hk7).2.2.2 w8 g8 w9 g9 hg8 ha8 hg9 ha9
                  have HR : Hid (AnySt w p N v5 bm (.slice (some ⟨g7, 0, none⟩) (i + (es.length - (i + 1))) c7) (.slice (some ⟨g9, 0, none⟩) (i + (es.length - (i + 1))) c9) (es.eraseIdx i) w9) := H9.out w7 _ w9 g9 c9 hS7 hk9 hb9 ho9
                  clear hS7 HO3 N3
                  go_wp2
                  go_roundw
                  case rel => exact ⟨c + 1, es.eraseIdx i, v5, by go_num, by omega, HR.out⟩
                  case measure => simp [intOf]; omega
              · by_cases hcb : cb = i + 1
                · skip
                  subst hcb
                  go_wp2_with fail
                  go_region_law (first
                    | (refine step_append_all (by rfl) (.tmp 90) (.tmp 93) 50 (by rfl) 49 i2 _ 2 24 Try.underlying50 hi2 hy0 hy1 hy2 rfl (by omega) w5.heap.size 0 0 [] (by simp [Act.eval, Act.put]) HO1 ⟨go, 0, none⟩ i ca ((es.flatMap En.kc).take (i * 2)) (by simp [Act.eval, Act.put]) L1 N1 O1 (by unfold maxLen; omega) (by omega) ?_; intro g6 c6 w6 ho6 hg6 ha6)
                    | (refine step_append_all (by rfl) (.tmp 94) (.tmp 98) 50 (by rfl) 49 i2 _ 2 24 Try.underlying50 hi2 hy0 hy1 hy2 rfl (by omega) g6 (0 + i) c6 ([] ++ (es.flatMap En.kc).take (i * 2)) (by simp [Act.eval, Act.put]) ho6 ⟨go, (i + 1) * 2, none⟩ (es.length - (i + 1)) (ca - (i + 1)) ((es.flatMap En.kc).drop ((i + 1) * 2)) (by simp [Act.eval, Act.put]) L2 (HN2.out w6 hg6) O2 (by unfold maxLen; omega) (by omega) ?_; intro g7 c7 w7 ho7 hg7 ha7))
                  obtain ⟨hk7, hb7⟩ := HK.out w6 g6 w7 g7 hg6 ha6 hg7 ha7
                  have hS7 := H7.out w7 g7 c7 hk7 hb7 ho7
                  have HO3 := (HN3.out w7 hk7).1
                  have N3 := (HN3.out w7 hk7).2.1
                  clear HO1 N1
                  go_wp2_with fail
                  go_region_law (first
                    | (refine step_append_all (by rfl) (.tmp 100) (.tmp 103) 44 (by rfl) 9 i3 _ 1 16 Try.underlying44 hi3 hx0 hx1' hx2 rfl (by omega) w7.heap.size 0 0 [] (by simp [Act.eval, Act.put]) HO3 ⟨gt, 0, none⟩ i (i + 1) ((es.flatMap En.tc).take (i * 1)) (by simp [Act.eval, Act.put]) L3 N3 O3 (by unfold maxLen; omega) (by omega) ?_; intro g8 c8 w8 ho8 hg8 ha8)
                    | (refine step_append_all (by rfl) (.tmp 104) (.tmp 108) 44 (by rfl) 9 i3 _ 1 16 Try.underlying44 hi3 hx0 hx1' hx2 rfl (by omega) g8 (0 + i) c8 ([] ++ (es.flatMap En.tc).take (i * 1)) (by simp [Act.eval, Act.put]) ho8 ⟨gt, 0, none⟩ (es.length - (i + 1)) 0 ((es.flatMap En.tc).drop ((i + 1) * 1)) (by simp [Act.eval, Act.put]) L4 (by rw [ELB.out (by trivial)]; simp) O4 (by unfold maxLen; omega) (by omega) ?_; intro g9 c9 w9 ho9 hg9 ha9))
                  obtain ⟨hk9, hb9⟩ := (HN3.out w7 hk7).2.2.2 w8 g8 w9 g9 hg8 ha8 hg9 ha9
                  have HR : Hid (AnySt w p N v5 bm (.slice (some ⟨g7, 0, none⟩) (i + (es.length - (i + 1))) c7) (.slice (some ⟨g9, 0, none⟩) (i + (es.length - (i + 1))) c9) (es.eraseIdx i) w9) := H9.out w7 _ w9 g9 c9 hS7 hk9 hb9 ho9
                  clear hS7 HO3 N3
                  go_wp2
                  go_roundw
                  case rel => exact ⟨c + 1, es.eraseIdx i, v5, by go_num, by omega, HR.out⟩
                  case measure => simp [intOf]; omega
                · skip
                  go_wp2_with fail
                  go_region_law (first
                    | (refine step_append_all (by rfl) (.tmp 90) (.tmp 93) 50 (by rfl) 49 i2 _ 2 24 Try.underlying50 hi2 hy0 hy1 hy2 rfl (by omega) w5.heap.size 0 0 [] (by simp [Act.eval, Act.put]) HO1 ⟨go, 0, none⟩ i ca ((es.flatMap En.kc).take (i * 2)) (by simp [Act.eval, Act.put]) L1 N1 O1 (by unfold maxLen; omega) (by omega) ?_; intro g6 c6 w6 ho6 hg6 ha6)
                    | (refine step_append_all (by rfl) (.tmp 94) (.tmp 98) 50 (by rfl) 49 i2 _ 2 24 Try.underlying50 hi2 hy0 hy1 hy2 rfl (by omega) g6 (0 + i) c6 ([] ++ (es.flatMap En.kc).take (i * 2)) (by simp [Act.eval, Act.put]) ho6 ⟨go, (i + 1) * 2, none⟩ (es.length - (i + 1)) (ca - (i + 1)) ((es.flatMap En.kc).drop ((i + 1) * 2)) (by simp [Act.eval, Act.put]) L2 (HN2.out w6 hg6) O2 (by unfold maxLen; omega) (by omega) ?_; intro g7 c7 w7 ho7 hg7 ha7))
                  obtain ⟨hk7, hb7⟩ := HK.out w6 g6 w7 g7 hg6 ha6 hg7 ha7
                  have hS7 := H7.out w7 g7 c7 hk7 hb7 ho7
                  have HO3 := (HN3.out w7 hk7).1
                  have N3 := (HN3.out w7 hk7).2.1
                  clear HO1 N1
                  go_wp2_with fail
                  go_region_law (first
                    | (refine step_append_all (by rfl) (.tmp 100) (.tmp 103) 44 (by rfl) 9 i3 _ 1 16 Try.underlying44 hi3 hx0 hx1' hx2 rfl (by omega) w7.heap.size 0 0 [] (by simp [Act.eval, Act.put]) HO3 ⟨gt, 0, none⟩ i cb ((es.flatMap En.tc).take (i * 1)) (by simp [Act.eval, Act.put]) L3 N3 O3 (by unfold maxLen; omega) (by omega) ?_; intro g8 c8 w8 ho8 hg8 ha8)
                    | (refine step_append_all (by rfl) (.tmp 104) (.tmp 108) 44 (by rfl) 9 i3 _ 1 16 Try.underlying44 hi3 hx0 hx1' hx2 rfl (by omega) g8 (0 + i) c8 ([] ++ (es.flatMap En.tc).take (i * 1)) (by simp [Act.eval, Act.put]) ho8 ⟨gt, i + 1, none⟩ (es.length - (i + 1)) (cb - (i + 1)) ((es.flatMap En.tc).drop ((i + 1) * 1)) (by simp [Act.eval, Act.put]) L4 ((HN3.out w7 hk7).2.2.1 w8 hg8) O4 (by unfold maxLen; omega) (by omega) ?_; intro g9 c9 w9 ho9 hg9 ha9))
                  obtain ⟨hk9, hb9⟩ := (HN3.out w7 hk7).2.2.2 w8 g8 w9 g9 hg8 ha8 hg9 ha9
                  have HR : Hid (AnySt w p N v5 bm (.slice (some ⟨g7, 0, none⟩) (i + (es.length - (i + 1))) c7) (.slice (some ⟨g9, 0, none⟩) (i + (es.length - (i + 1))) c9) (es.eraseIdx i) w9) := H9.out w7 _ w9 g9 c9 hS7 hk9 hb9 ho9
                  clear hS7 HO3 N3
                  go_wp2
                  go_roundw
                  case rel => exact ⟨c + 1, es.eraseIdx i, v5, by go_num, by omega, HR.out⟩
                  case measure => simp [intOf]; omega
            · as_aux_lemma =>
                subst hu
                have hD := drop_no hC.pop hOK (fun e he => by
                  obtain ⟨i, hi, rfl⟩ := List.getElem_of_mem he
                  exact hno i _ hi (List.getElem?_eq_getElem hi))
                clear hC hno
                go_wp2_with fail
                refine hD.mono ?_
                rintro e w5 ⟨rfl, hF⟩
                clear hD
                go_wp2
                go_roundw
                case rel => exact ⟨c + 1, es, v, by go_num, by omega, hF⟩
                case measure => simp [intOf]; omega
          · have hdr : (bits .and .i64 (c : Int) 7 == bits .and .i64 drop 7) = false := by simpa using hdr
            rcases hat with ⟨i, e, hi, he, ⟨hs1, hs2⟩, hu⟩ | ⟨hno, hu⟩
            · as_aux_lemma =>
                subst hu hs1 hs2
                have hD := put_old hC.pop he t
                rw [show behind = { data := #[98, 101, 104, 105, 110, 100] } from rfl] at hD
                have j0 : (0 : Int) ≤ i := Int.natCast_nonneg _
                have j1 : (i : Int) < es.length := by omega
                have j2 : ¬ (i : Int) < 0 := by omega
                have HE : Hid (es[i]? = some e) := he
                clear hC he
                go_wp2_with fail
                refine hD.mono ?_
                rintro e5 w5 ⟨rfl, v5, hF⟩
                clear hD k0 k1 d4
                have ho : w5.ownsRow 0 9 1 (.slice gb es.length cb) es.length (es.flatMap En.tc) := hF.get 2 rfl
                obtain ⟨g2, c2, hv2, f2⟩ := txt_at ho HE.out
                cases hv2
                have f3 : w5.frozen? ⟨g2, i, none⟩ = false := ho.frozenAt i
                have HR : Hid (AnySt w p N v5 bm (.slice ga es.length ca) (.slice (some ⟨g2, 0, none⟩) es.length cb) (es.set i ⟨e.s, e.n, wr.heap.size, t⟩) (w5.setCell ⟨g2, i, none⟩ (.string t))) := text_set hF HE.out
                clear hF ho
                go_wp2
                go_roundw
                case rel => exact ⟨c + 1, _, v5, by go_num, by omega, HR.out⟩
                case measure => simp [intOf]; omega
            · have hfit := any_fits hC.pop
              by_cases hf : (es.length : Int) = N
              · as_aux_lemma =>
                  subst hu
                  have hD := put_full hC.pop hOK (fun e he => by
                    obtain ⟨i, hi, rfl⟩ := List.getElem_of_mem he
                    exact hno i _ hi (List.getElem?_eq_getElem hi)) hf t
                  rw [show behind = { data := #[98, 101, 104, 105, 110, 100] } from rfl] at hD
                  have hfb : ((es.length : Int) == N) = true := by simpa using hf
                  clear hC hno hf hfit
                  go_wp2_with fail
                  refine hD.mono ?_
                  rintro e5 w5 ⟨rfl, hF⟩
                  clear hD k0 k1 d4
                  go_wp2
                  go_roundw
                  case rel => exact ⟨c + 1, es, v, by go_num, by omega, hF⟩
                  case measure => simp [intOf]; omega
              · as_aux_lemma =>
                  subst hu
                  have hflt : (es.length : Int) < N := by omega
                  have hC2 : St w (valsI es :: ownI 49 2 (.slice ga es.length ca) es.length (es.flatMap En.kc) :: ownI 9 1 (.slice gb es.length cb) es.length (es.flatMap En.tc) :: logI Try.prog 80 85 3 49 OKk p N v bm (es.map En.pair) :: [boxI B #[.string s, .int .i64 K] 49]) wr := hC.perm (List.perm_append_singleton _ _).symm
                  have hD := put_new' hC2 hOK (fun e he => by
                    obtain ⟨i, hi, rfl⟩ := List.getElem_of_mem he
                    exact hno i _ hi (List.getElem?_eq_getElem hi)) hflt t
                  rw [show behind = { data := #[98, 101, 104, 105, 110, 100] } from rfl] at hD
                  have hfb : ((es.length : Int) == N) = false := by simpa using hf
                  clear hC hC2 hno hf hfit hflt
                  go_wp2_with fail
                  refine hD.mono ?_
                  rintro e5 w5 ⟨rfl, v5, hF⟩
                  clear hD k0 k1 d4
                  generalize wr.heap.size = b5 at *
                  have k0 : w5.cell? ⟨B, 0, none⟩ = some (.string s) := hF.cell 4 rfl 0
                  have k1 : w5.cell? ⟨B, 1, none⟩ = some (.int .i64 K) := hF.cell 4 rfl 1
                  have ho : w5.ownsRow 0 49 2 (.slice ga es.length ca) es.length (es.flatMap En.kc) := hF.get 1 rfl
                  have hoA := ho.alloc (.cells #[.string s, .int .i64 K] 49)
                  have H6 : Hid (∀ w6 g6 c6, w6.ownsRow 0 49 2 (.slice (some ⟨g6, 0, none⟩) (es.length + 1) c6) (es.length + 1) (es.flatMap En.kc ++ [.string s, .int .i64 K]) → (w5.alloc (.cells #[.string s, .int .i64 K] 49)).grownBy w6 (Value.slice ga es.length ca).ownBlock → ((Value.slice ga es.length ca).ownBlock = some g6 ∨ g6 = w5.heap.size + 1) →
                      St w (valsI (es ++ [⟨s, K, b5, t⟩]) :: ownI 49 2 (.slice (some ⟨g6, 0, none⟩) (es.length + 1) c6) (es.length + 1) (es.flatMap En.kc ++ [.string s, .int .i64 K]) :: ownI 9 1 (.slice gb es.length cb) es.length (es.flatMap En.tc) :: logI Try.prog 80 85 3 49 OKk p N v5 bm ((es ++ [(⟨s, K, b5, t⟩ : En)]).map En.pair) :: [boxI B #[.string s, .int .i64 K] 49]) w6) := by
                    intro w6 g6 c6 a1 a2 a3
                    exact hF.rowGrown 1 rfl ((kept_alloc w5 (.cells #[.string s, .int .i64 K] 49)).calm.grown a2 (fun b hb => .inl hb)) a1 (fun b hb => by
                      simp [Value.ownBlock] at hb
                      subst hb
                      exact a3.imp_right (fun e => by omega))
                  have H7 : Hid (∀ w6 g6 c6 w7 g7 c7, St w (valsI (es ++ [⟨s, K, b5, t⟩]) :: ownI 49 2 (.slice (some ⟨g6, 0, none⟩) (es.length + 1) c6) (es.length + 1) (es.flatMap En.kc ++ [.string s, .int .i64 K]) :: ownI 9 1 (.slice gb es.length cb) es.length (es.flatMap En.tc) :: logI Try.prog 80 85 3 49 OKk p N v5 bm ((es ++ [(⟨s, K, b5, t⟩ : En)]).map En.pair) :: [boxI B #[.string s, .int .i64 K] 49]) w6 →
                      w7.ownsRow 0 9 1 (.slice (some ⟨g7, 0, none⟩) (es.length + 1) c7) (es.length + 1) (es.flatMap En.tc ++ [.string t]) → (w6.alloc (.cells #[.string t] 9)).grownBy w7 (Value.slice gb es.length cb).ownBlock → ((Value.slice gb es.length cb).ownBlock = some g7 ∨ g7 = w6.heap.size + 1) →
                      AnySt w p N v5 bm (.slice (some ⟨g6, 0, none⟩) (es.length + 1) c6) (.slice (some ⟨g7, 0, none⟩) (es.length + 1) c7) (es ++ [⟨s, K, b5, t⟩]) w7) := by
                    intro w6 g6 c6 w7 g7 c7 h6 a1 a2 a3
                    have h7 := h6.rowGrown 2 rfl ((kept_alloc w6 (.cells #[.string t] 9)).calm.grown a2 (fun b hb => .inl hb)) a1 (fun b hb => by
                      simp [Value.ownBlock] at hb
                      subst hb
                      exact a3.imp_right (fun e => by omega))
                    have h8 := (h7.perm (its' := boxI B #[.string s, .int .i64 K] 49 :: _) (List.perm_append_singleton _ [_, _, _, _])).pop
                    unfold AnySt anyIts
                    rw [List.length_append, List.flatMap_append, List.flatMap_append]
                    exact h8
                  clear hF ho
                  generalize es.flatMap En.kc = KC at *
                  go_wp2_with (first
                    | (at_builtin; refine wpList_append_lies _ rfl (.tmp 158) (.tmp 160) 50 rfl 0 49 i2 _ 2 24 Try.underlying50 hi2 hy0 hy1 hy2 rfl (by omega) (.slice ga es.length ca) es.length KC rfl hoA ⟨w5.heap.size, 0, none⟩ 1 1 [.string s, .int .i64 K] rfl rfl (World.news_of_block (cs := #[.string s, .int .i64 K]) (t := 49) (fr := (0, 0)) (heap_alloc_new w5 _)) (by simp [Value.oneCell']) (by omega) (by unfold maxLen; omega) (by omega) (by simp) (w5.heap.size + 1) (by simp) ?_; intro g6 c6 w6 ho6 hg6 ha6 hl6; have hG := H6.out w6 g6 c6 ho6 hg6 ha6)
                    | (at_builtin; refine wpList_append_lies _ rfl (.tmp 162) (.tmp 164) 44 rfl 0 9 i3 _ 1 16 Try.underlying44 hi3 hx0 hx1' hx2 rfl (by omega) (.slice gb es.length cb) es.length (es.flatMap En.tc) rfl ((show w6.ownsRow 0 9 1 (.slice gb es.length cb) es.length (es.flatMap En.tc) from hG.get 2 rfl).alloc (.cells #[.string t] 9)) ⟨w6.heap.size, 0, none⟩ 1 1 [.string t] rfl rfl (World.news_of_block (cs := #[.string t]) (t := 9) (fr := (0, 0)) (heap_alloc_new w6 _)) (by simp [Value.oneCell']) (by omega) (by unfold maxLen; omega) (by omega) (by simp) (w6.heap.size + 1) (by simp) ?_; intro g7 c7 w7 ho7 hg7 ha7 hl7))
                  go_roundw
                  case rel => exact ⟨c + 1, _, v5, by go_num, by omega, H7.out w6 g6 c6 w7 g7 c7 hG ho7 hg7 ha7⟩
                  case measure => simp [intOf]; omega
    ·
        obtain rfl : c = len := by omega
        clear HI HL hlt hc
        obtain ⟨ga, ca, hu11⟩ := own_shape (any_ord hF)
        obtain ⟨gb, cb, hu12⟩ := own_shape (any_txt hF)
        subst hu11 hu12
        have hsm := any_small hF
        have hK := keysT_any (any_log hF)
        simp only [List.length_map, kflat_es] at hK
        go_wp2_with fail
        refine hK.mono ?_
        rintro e5 w5 ⟨rfl, hk1, hk2⟩
        have hS1 := hF.push (ownI 49 2 (.slice (some ⟨wr.heap.size, 0, none⟩) es.length es.length) es.length (es.flatMap En.kc)) hk2 hk1 (own_nodup (.slice (some ⟨wr.heap.size, 0, none⟩) es.length es.length)) (by simp [ownI, Value.ownBlock])
        clear hK hk1 hk2 hF
        generalize wr.heap.size = G at *
        have hL := lenT_any (any_log hS1.pop)
        simp only [List.length_map] at hL
        go_wp2_with fail
        refine hL.mono ?_
        rintro e6 w6 ⟨rfl, rfl⟩
        clear hL
        go_wp2_with fail
        go_loopw [21] (fun x wz => ∃ d : Nat, x = .int .i64 d ∧ d ≤ es.length ∧ St w (ownI 49 2 (.slice (some ⟨G, 0, none⟩) es.length es.length) es.length (es.flatMap En.kc) :: anyIts p N v bm (.slice ga es.length ca) (.slice gb es.length cb) es) wz) (fun x _ => es.length - (intOf x).toNat)
        case atStart => exact ⟨0, rfl, Nat.zero_le _, hS1⟩
        case round =>
          obtain ⟨d, rfl, hd, hS⟩ := hrel
          clear hS1
          by_cases hlt2 : d < es.length
          · have hx : es[d]? = some es[d] := List.getElem?_eq_getElem hlt2
            generalize es[d] = e at *
            obtain ⟨go, co, hv1, f1, f2⟩ := ord_at (any_ord hS.pop) hx
            obtain ⟨gt, ct, hv2, _⟩ := txt_at (any_txt hS.pop) hx
            cases hv1
            cases hv2
            have j0 : (0 : Int) ≤ d := Int.natCast_nonneg _
            have j1 : (d : Int) < es.length := by omega
            have hG := getT_at (any_log hS.pop) (pair_at hx)
            go_wp2_with fail
            refine hG.mono ?_
            rintro e7 w7 ⟨rfl, hk7⟩
            have hS := hS.calm hk7
            clear hG hk7 f1 f2
            have hA := atT_ok (any_log hS.pop) (pair_at hx)
            go_wp2_with fail
            refine hA.mono ?_
            rintro e8 w8 ⟨rfl, hk8⟩
            have hS := hS.calm hk8
            clear hA hk8
            have hB := hS.box #[.string e.s, .int .i64 e.n] 49
            clear hS
            go_wp2_with fail
            generalize w8.alloc (.cells #[.string e.s, .int .i64 e.n] 49) = w9 at *
            generalize w8.heap.size = B at *
            have b0 : w9.cell? ⟨B, 0, none⟩ = some (.string e.s) := hB.cell 0 rfl 0
            have b1 : w9.cell? ⟨B, 1, none⟩ = some (.int .i64 e.n) := hB.cell 0 rfl 1
            obtain ⟨_, _, hv1, f1, f2⟩ := ord_at (any_ord hB.pop.pop) hx
            cases hv1
            obtain ⟨_, _, hv2, f3⟩ := txt_at (any_txt hB.pop.pop) hx
            cases hv2
            obtain ⟨_, _, hv3, f4, f5⟩ := ord_at (show w9.ownsRow 0 49 2 (.slice (some ⟨G, 0, none⟩) es.length es.length) es.length (es.flatMap En.kc) from hB.pop.get 0 rfl) hx
            cases hv3
            have f6 : w9.cell? ⟨e.g, 0, none⟩ = some (.string e.t) := cell_of_heap (any_val hB.pop.pop (List.mem_of_getElem? hx))
            have hEq := eqK
            have hks := keq_self e.s e.n
            have HS : Hid (St w (ownI 49 2 (.slice (some ⟨G, 0, none⟩) es.length es.length) es.length (es.flatMap En.kc) :: anyIts p N v bm (.slice (some ⟨go, 0, none⟩) es.length ca) (.slice (some ⟨gt, 0, none⟩) es.length cb) es) w9) := hB.pop
            clear hB hx
            go_quiet (fail)
            go_wp2
            go_roundw
            case rel => exact ⟨d + 1, by go_num, by omega, HS.out.calm ((Kept.refl _ w9).drewN _)⟩
            case measure => simp [intOf]; omega
          · obtain rfl : d = es.length := by omega
            go_wp2
            go_ret
            exact ⟨rfl, hS.same⟩
end Go.Proofs.Ytoejhbecogmdbaa
