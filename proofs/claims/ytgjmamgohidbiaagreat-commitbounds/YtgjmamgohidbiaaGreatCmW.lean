/- Configs and writes by raw numbers. -/
import Derived.Test.YtgjmamgohidbiaaGreatCmV
import Derived.Test.YtgjmamgohidbiaaGreatMask
namespace Go.Proofs.YtgjmamgohidbiaaGreat
open Go.RowKit
set_option linter.unusedVariables false
set_option linter.unusedSimpArgs false
attribute [local go_sem ↓] Go.wp_at_zero Go.wp_at_succ

theorem and127 (z : Int) : bits .and .i64 z 127 = z % 128 := and_mask z 7 (by decide)
theorem and63 (z : Int) : bits .and .i64 z 63 = z % 64 := and_mask z 6 (by decide)
/-- One of 64 cells and 8 slots. -/
def cfgOf (tag bits bias most : Int) : Cfg := ⟨64, 8, 1 + bits % 128, 1 + (tag % 4) % 3, bias % 8, most % 64⟩
theorem cfgOf_fits (tag bits bias most : Int) : (cfgOf tag bits bias most).fits = true := by
  simp only [Cfg.fits, cfgOf, Bool.and_eq_true, inR_iff]
  omega
theorem cfgOf_live (tag bits bias most : Int) : LiveOk (cfgOf tag bits bias most) := ⟨cfgOf_fits .., rfl, rfl, rfl⟩
set_option maxRecDepth 100000 in
set_option maxHeartbeats 1000000 in
theorem config_any (tag bits bias most : Int) (w : World) : Calls Tryz.prog 24 #[.int .i64 tag, .int .i64 bits, .int .i64 bias, .int .i64 most] w fun e w' => e = .returned (cfgOf tag bits bias most).val ∧ Kept (fun _ => False) w w' := by
  have m1 := and127 bits
  have m2 := and3 tag
  have m3 := and7 bias
  have m4 := and63 most
  have b1 : 0 ≤ bits % 128 ∧ bits % 128 < 128 := by omega
  have b2 : 0 ≤ tag % 4 ∧ tag % 4 < 4 := by omega
  have b3 : 0 ≤ bias % 8 ∧ bias % 8 < 8 := by omega
  have b4 : 0 ≤ most % 64 ∧ most % 64 < 64 := by omega
  unfold cfgOf Cfg.val
  simp only
  generalize bits % 128 = x1 at *
  generalize tag % 4 = x2 at *
  generalize bias % 8 = x3 at *
  generalize most % 64 = x4 at *
  obtain ⟨b11, b12⟩ := b1
  obtain ⟨b21, b22⟩ := b2
  have h3 : Int.tmod x2 3 = x2 % 3 := Int.tmod_eq_emod_of_nonneg b21
  have b5 : 0 ≤ x2 % 3 ∧ x2 % 3 < 3 := by omega
  obtain ⟨b51, b52⟩ := b5
  generalize x2 % 3 = x5 at *
  have k0 := kept_alloc w (.cells #[.int .i64 64, .int .i64 8, .int .i64 (1 + x1), .int .i64 (1 + x5), .int .i64 x3, .int .i64 x4] 23)
  go_enter Tryz.func24, Tryz.ntmps24
  have hw := heap_alloc_new w (.cells #[.int .i64 64, .int .i64 8, .int .i64 (1 + x1), .int .i64 (1 + x5), .int .i64 x3, .int .i64 x4] 23)
  go_wp2_with (simp only [m1, m2, m3, m4])
  exact bodyPost_ret (v := .agg #[.int .i64 64, .int .i64 8, .int .i64 (1 + x1), .int .i64 (1 + x5), .int .i64 x3, .int .i64 x4]) (by simp [results, Tryz.results24, go_sem]) rfl ⟨rfl, k0⟩

/-- Unlike cells of a space of 64. -/
structure WPart (ps : List Pr) : Prop where
  n : ps.length ≤ 16
  r : ∀ p, p ∈ ps → 0 ≤ p.ce ∧ p.ce < 64
  u : (cesOf ps).Nodup
theorem WPart.nil : WPart [] := ⟨by simp, fun p h => absurd h (List.not_mem_nil), List.nodup_nil⟩
theorem WPart.push {ps : List Pr} (h : WPart ps) (hn : ps.length < 16) {k : Nat} (hk : k < 64) (hc : (cesOf ps).contains (k : Int) = false) (x : Int) : WPart (ps ++ [⟨k, x⟩]) := by
  refine ⟨by simp; omega, fun p hp => ?_, ?_⟩
  · rcases List.mem_append.1 hp with hp | hp
    · exact h.r p hp
    · simp at hp
      subst hp
      exact ⟨by simp, by simp; omega⟩
  · unfold cesOf
    rw [List.map_append, List.nodup_append]
    refine ⟨h.u, by simp, ?_⟩
    intro a ha b hb e
    simp at hb
    subst hb
    subst e
    have := List.contains_iff_mem.2 ha
    rw [show (List.map Pr.ce ps) = cesOf ps from rfl, hc] at this
    cases this
theorem cesOf_nodup_twice {zs : List Int} (h : zs.Nodup) : twiceB zs = false := by
  unfold twiceB
  rw [List.any_eq_false]
  intro i hi
  simp only [List.mem_range] at hi
  rw [Bool.not_eq_true, ← Bool.not_eq_true, List.contains_iff_mem]
  intro hm
  rw [List.getD_eq_getElem?_getD, List.getElem?_eq_getElem hi, Option.getD_some] at hm
  obtain ⟨j, hj, e⟩ := List.getElem_of_mem hm
  have hj2 : j < i := by simp at hj; omega
  rw [List.getElem_take] at e
  have hp := List.pairwise_iff_getElem.1 h j i (by omega) hi hj2
  exact hp e
theorem WPart.ck {ps : List Pr} (h : WPart ps) (h1 : ps ≠ []) (tag bits bias most : Int) : ckE (cfgOf tag bits bias most) (0 : Nat) 1 5 ps = 0 := by
  have ho : outC 64 (cesOf ps) = false := by
    unfold outC
    rw [List.any_eq_false]
    intro c hc
    obtain ⟨p, hp, rfl⟩ := List.mem_map.1 hc
    have := h.r p hp
    simp [inC]
    omega
  have ht := cesOf_nodup_twice h.u
  have hn := h.n
  unfold ckE
  rw [if_neg (by decide), if_neg (by decide), if_neg h1, if_neg (by omega), if_neg (by simp [inC, cfgOf])]
  unfold cellsE
  rw [show (cfgOf tag bits bias most).ce = 64 from rfl, ho, ht]
  rfl
def hasL (ps : List Pr) : List Value := (List.range 64).map fun k => .bool ((cesOf ps).contains ((k : Nat) : Int))
theorem hasL_at (ps : List Pr) {k : Nat} (hk : k < 64) : (hasL ps)[k]? = some (.bool ((cesOf ps).contains (k : Int))) := by simp [hasL, hk]
theorem hasL_set (ps : List Pr) {k : Nat} (hk : k < 64) (x : Int) : (hasL ps).set k (.bool true) = hasL (ps ++ [⟨k, x⟩]) := by
  apply List.ext_getElem?
  intro j
  rw [List.getElem?_set]
  by_cases hj : j < 64
  · by_cases e : k = j
    · subst e
      simp [hasL, hk, cesOf]
    · have e' : ¬ ((j : Nat) : Int) = (k : Int) := by omega
      simp [hasL, hj, e, cesOf, e']
  · by_cases e : k = j
    · omega
    · simp [hasL, hj, e]
set_option maxRecDepth 100000 in
set_option maxHeartbeats 2000000 in
theorem writes_any (la : Option Addr) (n lc : Nat) (zs : List Pr) (w : World) (hP : PIn w la n zs) (hn : n ≤ 8796093022208) :
    Calls Tryz.prog 27 #[.slice la n lc] w fun e w' => ∃ v ps, e = .returned v ∧ WPart ps ∧ ps ≠ [] ∧ St w [ownI 59 2 v ps.length (prCells ps)] w' := by
  obtain ⟨i0, hi0, hz0, hz1, hz2⟩ := info_parts Tryz.infoPr
  go_enter Tryz.func27, Tryz.ntmps27
  go_upto_region 3 with fail
  have hcs : (#[.bool false, .bool false, .bool false, .bool false, .bool false, .bool false, .bool false, .bool false, .bool false, .bool false, .bool false, .bool false, .bool false, .bool false, .bool false, .bool false, .bool false, .bool false, .bool false, .bool false, .bool false, .bool false, .bool false, .bool false, .bool false, .bool false, .bool false, .bool false, .bool false, .bool false, .bool false, .bool false, .bool false, .bool false, .bool false, .bool false, .bool false, .bool false, .bool false, .bool false, .bool false, .bool false, .bool false, .bool false, .bool false, .bool false, .bool false, .bool false, .bool false, .bool false, .bool false, .bool false, .bool false, .bool false, .bool false, .bool false, .bool false, .bool false, .bool false, .bool false, .bool false, .bool false, .bool false, .bool false] : Array Value) = (hasL []).toArray := rfl
  rw [hcs]
  clear hcs
  have s0 := ((St.nil w).box (hasL []).toArray 176)
  generalize w.alloc (.cells (hasL []).toArray 176) = W0 at *
  generalize w.heap.size = M at *
  have HN : Hid (n = zs.length) := hP.1
  have HP : Hid (PIn w la n zs) := hP
  clear hP
  go_wp2_with fail
  have s1 := s0.own (Kept.refl _ W0) (World.ownsRow_nil W0 W0.heap.size 59 2)
  clear s0
  go_loopw [3, 5] (fun v i wr => ∃ (j : Nat) (ps : List Pr), i = .int .i64 j ∧ j ≤ n ∧ WPart ps ∧ St w [ownI 59 2 v ps.length (prCells ps), boxI M (hasL ps).toArray 176] wr) (fun _ i _ => n - (intOf i).toNat)
  case atStart => exact ⟨0, [], rfl, Nat.zero_le _, WPart.nil, s1⟩
  case round =>
    clear s1
    rename_i v3 _
    obtain ⟨j, ps, rfl, hj, hW, hS⟩ := hrel
    have HW : Hid (WPart ps) := hW
    have h16 := hW.n
    clear hW
    obtain ⟨la', lc', hv⟩ := own_form (n := ps.length) (hS.get 0 rfl)
    subst hv
    by_cases hlt : j < n
    · have h1 : (j : Int) < (n : Int) := by omega
      have h0 : (0 : Int) ≤ (j : Int) := by omega
      by_cases hl : ps.length < 16
      · have h2 : (ps.length : Int) < 16 := by omega
        obtain ⟨g, o, rfl, -⟩ := HP.out.2 (by omega)
        obtain ⟨c0, c1⟩ := (HP.out.kept hS.same).cells (j := j) (by have := HN.out; omega)
        generalize hPq : zs.getD j Pr.zero = Pq at *
        obtain ⟨ce, xx⟩ := Pq
        simp only at c0 c1
        obtain ⟨k, hk⟩ : ∃ k : Nat, ce % 64 = (k : Int) := ⟨(ce % 64).toNat, by omega⟩
        have k64 : k < 64 := by omega
        have m63 := and63 ce
        rw [hk] at m63
        have kk0 : (0 : Int) ≤ (k : Int) := by omega
        have kk1 : (k : Int) < 64 := by omega
        have cb : wr.cell? ⟨M, k, none⟩ = some (.bool ((cesOf ps).contains (k : Int))) := (hS.cell 1 rfl k).trans (by rw [List.getElem?_toArray]; exact hasL_at ps k64)
        have fb : wr.frozen? ⟨M, k, none⟩ = false := hS.frozen 1 rfl k
        cases hb : (cesOf ps).contains (k : Int) with
        | true =>
          rw [hb] at cb
          have HS : Hid _ := hS
          clear hS fb hk hb
          go_wp2_with (simp only [m63])
          go_roundw
          case rel => exact ⟨j + 1, ps, by go_num, hlt, HW.out, HS.out⟩
          case measure => simp [intOf]; omega
        | false =>
          rw [hb] at cb
          have s2 : St w [ownI 59 2 (.slice la' ps.length lc') ps.length (prCells ps), boxI M (hasL (ps ++ [⟨k, xx⟩])).toArray 176] (wr.setCell ⟨M, k, none⟩ (.bool true)) := by
            have := hS.write 1 rfl k (.bool true)
            rw [← hasL_set ps k64 xx]
            simpa using this
          have HW2 : Hid (WPart (ps ++ [⟨k, xx⟩])) := HW.out.push hl k64 hb xx
          clear hS hk hb
          go_upto_region 9 with (simp only [m63])
          generalize wr.setCell ⟨M, k, none⟩ (.bool true) = w2 at *
          clear cb fb c0 c1
          obtain ⟨-, c1⟩ := (HP.out.kept s2.same).cells (j := j) (by have := HN.out; omega)
          rw [hPq] at c1
          simp only at c1
          have hbs := buildPr w2 (k : Int) xx
          have ho : w2.ownsRow 0 59 2 (.slice la' ps.length lc') ps.length (prCells ps) := s2.get 0 rfl
          have HS2 : Hid _ := s2
          clear s2 hPq
          generalize hNN : ps.length = NN at *
          have HNN : Hid (ps.length = NN) := hNN
          generalize hPC : prCells ps = PC at *
          have HPC : Hid (prCells ps = PC) := hPC
          clear hNN hPC
          go_wp2_with (at_builtin; refine wpList_append_lies _ rfl (.tmp 30) (.tmp 38) 45 rfl 0 59 i0 _ 2 16 Tryz.underlying45 hi0 hz0 hz1 hz2 rfl (by omega) _ NN PC rfl (ho.alloc _) ⟨w2.heap.size, 0, none⟩ 1 1 [.int .i64 (k : Int), .int .i64 xx] rfl (by simp) (World.news_of_block (cs := #[.int .i64 (k : Int), .int .i64 xx]) (t := 59) (fr := (0, 0)) (heap_alloc_new w2 _)) (by simp [Value.oneCell']) (by omega) (by unfold maxLen; omega) (by omega) (Nat.zero_le _) (w2.heap.size + 1) (by simp) ?_; intro g2 cap2 w5 hown5 hgrow hat hlt5)
          go_roundw
          case rel =>
            refine ⟨j + 1, ps ++ [⟨k, xx⟩], by go_num, hlt, HW2.out, ?_⟩
            have s3 := HS2.out.growAt 0 rfl hown5 hgrow hat
            rw [prCells_append, List.length_append, HNN.out, HPC.out]
            exact s3
          case measure => simp [intOf]; omega
      · have NZ : 0 < ps.length := by omega
        have h2 : decide ((ps.length : Int) < 16) = false := by simp; omega
        have HF : Hid (St w [ownI 59 2 (.slice la' ps.length lc') ps.length (prCells ps)] wr) := St.popAt (pre := [_]) hS
        have HNE : Hid (ps ≠ []) := fun e => by rw [e] at NZ; simp at NZ
        have t0 : ((ps.length : Int) == 0) = false := beq_eq_false_iff_ne.2 (by omega)
        clear hS
        go_wp2
        go_ret
        exact ⟨_, ps, rfl, HW.out, HNE.out, HF.out⟩
    · obtain rfl : j = n := by omega
      by_cases NZ : 0 < ps.length
      · have HF : Hid (St w [ownI 59 2 (.slice la' ps.length lc') ps.length (prCells ps)] wr) := St.popAt (pre := [_]) hS
        have HNE : Hid (ps ≠ []) := fun e => by rw [e] at NZ; simp at NZ
        have t0 : ((ps.length : Int) == 0) = false := beq_eq_false_iff_ne.2 (by omega)
        clear hS
        go_wp2
        go_ret
        exact ⟨_, ps, rfl, HW.out, HNE.out, HF.out⟩
      · have hp : ps = [] := List.length_eq_zero_iff.1 (by omega)
        subst hp
        have hbs := buildPr wr 3 9
        have ho : wr.ownsRow 0 59 2 (.slice la' 0 lc') 0 [] := hS.get 0 rfl
        have HS2 : Hid (St w [ownI 59 2 (.slice la' 0 lc') 0 []] wr) := St.popAt (pre := [_]) hS
        have HW2 : Hid (WPart [⟨3, 9⟩]) := WPart.nil.push (by decide) (k := 3) (by decide) (by decide) 9
        clear hS NZ
        go_wp2_with (at_builtin; refine wpList_append_lies _ rfl (.tmp 43) (.tmp 45) 45 rfl 0 59 i0 _ 2 16 Tryz.underlying45 hi0 hz0 hz1 hz2 rfl (by omega) _ 0 [] rfl (ho.alloc _) ⟨wr.heap.size, 0, none⟩ 1 1 [.int .i64 3, .int .i64 9] rfl (by simp) (World.news_of_block (cs := #[.int .i64 3, .int .i64 9]) (t := 59) (fr := (0, 0)) (heap_alloc_new wr _)) (by simp [Value.oneCell']) (by omega) (by unfold maxLen; omega) (by omega) (Nat.zero_le _) (wr.heap.size + 1) (by simp) ?_; intro g2 cap2 w5 hown5 hgrow hat hlt5)
        go_ret
        exact ⟨_, [⟨3, 9⟩], rfl, HW2.out, by simp, HS2.out.growAt 0 rfl hown5 hgrow hat⟩
end Go.Proofs.YtgjmamgohidbiaaGreat
