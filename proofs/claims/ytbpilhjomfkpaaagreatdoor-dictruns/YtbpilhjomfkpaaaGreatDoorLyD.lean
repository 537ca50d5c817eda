/- The document's Read: plain facts. The document's home and Read. The document's Lay: a row of so many numbers. -/
import Derived.Test.YtbpilhjomfkpaaaGreatDoorRdM
namespace Go.Proofs.YtbpilhjomfkpaaaGreatDoor
open Go.RowKit
set_option linter.unusedVariables false
set_option linter.unusedSimpArgs false

/-- A key that is there stands at a used place, and no other key does. -/
theorem used_has {c : List Int} : ∀ {i : Nat} {ls : List Pr}, usedM c i = some ls → ∀ x : Int, (∃ v, (x, v) ∈ ls) ↔ ∃ k, k < i ∧ stA c k = 1 ∧ keyA c k = x
  | 0, ls, h, x => by
    simp only [usedM, Option.some.injEq] at h
    subst h
    simp
  | i + 1, ls, h, x => by
    rw [usedM] at h
    split at h
    · cases h
    · rename_i ls0 h0
      have ih := used_has h0 x
      split at h
      · rename_i hst
        simp only [Option.some.injEq] at h
        subst h
        rw [ih]
        constructor
        · rintro ⟨k, hk, r⟩
          exact ⟨k, by omega, r⟩
        · rintro ⟨k, hk, h1, h2⟩
          refine ⟨k, ?_, h1, h2⟩
          by_cases e : k = i
          · subst e; omega
          · omega
      · split at h
        · rename_i hst
          split at h
          · cases h
          · simp only [Option.some.injEq] at h
            subst h
            constructor
            · rintro ⟨v, hv⟩
              rcases List.mem_cons.1 hv with e | hv
              · simp only [Prod.mk.injEq] at e
                exact ⟨i, by omega, hst, e.1.symm⟩
              · obtain ⟨k, hk, r⟩ := ih.1 ⟨v, hv⟩
                exact ⟨k, by omega, r⟩
            · rintro ⟨k, hk, h1, h2⟩
              by_cases e : k = i
              · subst e
                exact ⟨(k : Int), by rw [h2]; simp⟩
              · obtain ⟨v, hv⟩ := ih.2 ⟨k, by omega, h1, h2⟩
                exact ⟨v, List.mem_cons_of_mem _ hv⟩
        · cases h
/-- What was there among the first places is there among more of them. -/
theorem used_more {c : List Int} {i j : Nat} (h : i ≤ j) {ls : List Pr} (hi : usedM c i = some ls) : usedM c j = none ∨ ∃ ls2, usedM c j = some ls2 ∧ ∀ p ∈ ls, p ∈ ls2 := by
  induction j with
  | zero =>
    obtain rfl : i = 0 := by omega
    exact .inr ⟨ls, hi, fun p h => h⟩
  | succ j ih =>
    by_cases e : i = j + 1
    · subst e; exact .inr ⟨ls, hi, fun p h => h⟩
    · rcases ih (by omega) with hn | ⟨ls2, h2, hs⟩
      · exact .inl (usedM_none (by omega) hn)
      · rw [usedM, h2]
        simp only
        split
        · exact .inr ⟨ls2, rfl, hs⟩
        · split
          · cases atP ls2 (keyA c j) with
            | some v => exact .inl rfl
            | none => exact .inr ⟨_, rfl, fun p hp => List.mem_cons_of_mem _ (hs p hp)⟩
          · exact .inl rfl
theorem readS_none {c : List Int} {n : Nat} (h : usedM c n = none) : readS c n = none := by unfold readS; rw [h]
/-- One place that is not reached, and they are not of a dict. -/
theorem readS_far {c : List Int} {n i : Nat} (hi : i ≤ n) {ls : List Pr} (h : usedM c i = some ls) {p : Pr} (hp : p ∈ ls) (hr : reachM c n p.1 p.2.toNat = false) : readS c n = none := by
  rcases used_more hi h with hn | ⟨ls2, h2, hs⟩
  · exact readS_none hn
  · unfold readS
    rw [h2]
    simp only
    rw [if_neg]
    rintro ⟨_, hall⟩
    have := List.all_eq_true.1 hall p (hs p hp)
    rw [hr] at this
    cases this
/-- The entries of the first places, in order. -/
def outM (c : List Int) (ls : List Pr) : List Pr := sortP (ls.map fun p => (p.1, valA c p.2.toNat))
theorem out_put {c : List Int} {ls : List Pr} (hg : Good ls) {key : Int} {i : Nat} (hn : ∀ p ∈ ls, p.1 ≠ key) : outM c ((key, (i : Int)) :: ls) = lessP (outM c ls) key ++ [(key, valA c i)] ++ moreP (outM c ls) key := by
  have hr : Rises (outM c ls) := sortP_rises (List.pairwise_map.2 hg.1)
  have hk : ∀ p ∈ outM c ls, p.1 ≠ key := fun p hp => by
    obtain ⟨q, hq, e⟩ := List.mem_map.1 ((sortP_perm _).mem_iff.1 hp)
    rw [← e]
    exact hn q hq
  have e : outM c ((key, (i : Int)) :: ls) = insP (key, valA c i) (outM c ls) := rfl
  rw [e, ins_split hr hk]
  simp
end Go.Proofs.YtbpilhjomfkpaaaGreatDoor

namespace Go.Proofs.YtbpilhjomfkpaaaGreatDoor
open Go.RowKit
set_option linter.unusedVariables false
set_option linter.unusedSimpArgs false
attribute [local go_sem ↓] Go.wp_at_zero Go.wp_at_succ

theorem rhome_any (x : Int) (n : Nat) (hn : 0 < n) (hn2 : n ≤ 60) (hx0 : -9223372036854775808 ≤ x) (hx1 : x ≤ 9223372036854775807) (w : World) : Calls Tryz.prog 38 #[.int .i64 x, .int .i64 n] w fun e w' => e = .returned (.int .i64 (homeM x n : Nat)) ∧ w' = w := by
  have hh := home_tmod x hn
  have b1 : x.tmod n < n := Int.tmod_lt_of_pos x (by omega)
  have b0 : -(n : Int) < x.tmod n := by
    have := Int.lt_tmod_of_pos x (show (0 : Int) < (n : Int) by omega)
    omega
  have t0 : ((n : Int) == 0) = false := by simp; omega
  have t1 : ¬ (n : Int) = 0 := by omega
  rw [hh]
  clear hh
  by_cases h : x.tmod n < 0
  · rw [if_pos h]
    generalize hq : x.tmod n = q at *
    have w1 : IntKind.i64.wrap q = q := by rw [IntKind.wrap_i64]; omega
    go_enter Tryz.func38, Tryz.ntmps38
    go_wp2_with (simp only [hq, w1])
    go_ret
    exact ⟨rfl, rfl⟩
  · rw [if_neg h]
    generalize hq : x.tmod n = q at *
    have w1 : IntKind.i64.wrap q = q := by rw [IntKind.wrap_i64]; omega
    go_enter Tryz.func38, Tryz.ntmps38
    go_wp2_with (simp only [hq, w1])
    go_ret
    exact ⟨rfl, rfl⟩
theorem readS_some {c : List Int} {n : Nat} {ls : List Pr} (h : usedM c n = some ls) (hl : (ls.length : Int) = c.getD 0 0) (hr : ∀ p ∈ ls, reachM c n p.1 p.2.toNat = true) : readS c n = some (outM c ls) := by
  unfold readS outM
  rw [h]
  simp only
  rw [if_pos ⟨hl, List.all_eq_true.2 hr⟩]
theorem readS_count {c : List Int} {n : Nat} {ls : List Pr} (h : usedM c n = some ls) (hl : ¬ (ls.length : Int) = c.getD 0 0) : readS c n = none := by
  unfold readS
  rw [h]
  simp only
  rw [if_neg (fun hh => hl hh.1)]
theorem outM_length {c : List Int} {ls : List Pr} : (outM c ls).length = ls.length := by
  unfold outM
  rw [(sortP_perm _).length_eq, List.length_map]
set_option maxRecDepth 100000 in
set_option maxHeartbeats 16000000 in
theorem rRead_any (la : Option Addr) (m lc : Nat) (zs : List Int) (base n : Int) (w : World) (hX : XIn w la m zs) (hc : m ≤ lc) (hm : m ≤ 9223372036854775807) (hz : ∀ z ∈ zs, Rg z) :
    Calls Tryz.prog 18 #[.slice la m lc, .int .i64 base, .int .i64 n] w (ReadE zs base n w) := by
  have hml := hX.1
  have hQ := fun W => rRoom_any n W
  by_cases h : fitsS base n m = true
  · have hfz : fitsS base n zs.length = true := by rw [← hml]; exact h
    unfold fitsS at h
    simp only [Bool.and_eq_true, decide_eq_true_eq] at h
    obtain ⟨h0, hb0, hb1⟩ := h
    obtain ⟨h1, h2, h3⟩ := roomS_pos h0
    rw [h3] at hb1 hQ
    obtain ⟨k, rfl⟩ : ∃ k : Nat, n = (k : Int) := ⟨n.toNat, by omega⟩
    obtain ⟨i, rfl⟩ : ∃ i : Nat, base = (i : Int) := ⟨base.toNat, by omega⟩
    obtain ⟨g, o, rfl⟩ := hX.addr (by omega)
    have hsl := slicePart g o m lc i (1 + 3 * k) (by omega) (by omega) hc (i : Int) ((i : Int) + (1 + 3 * (k : Int))) rfl (by push_cast; rfl) w
    have hP := hX.part i (1 + 3 * k) (by omega)
    have hcr : ∀ j, Rg (((zs.drop i).take (1 + 3 * k)).getD j 0) := fun j => by
      rw [List.getD_eq_getElem?_getD]
      cases he : ((zs.drop i).take (1 + 3 * k))[j]? with
      | none => exact ⟨by decide, by decide⟩
      | some u => exact hz u (List.mem_of_mem_drop (List.mem_of_mem_take (List.mem_of_getElem? he)))
    have hi1 : (i : Int) + (1 + 3 * (k : Int)) ≤ 9223372036854775807 := by omega
    have HYs : Hid (∀ ls v w', usedM ((zs.drop i).take (1 + 3 * k)) k = some ls → (ls.length : Int) = ((zs.drop i).take (1 + 3 * k)).getD 0 0 → (∀ p ∈ ls, reachM ((zs.drop i).take (1 + 3 * k)) k p.1 p.2.toNat = true) → St w [lstE v (outM ((zs.drop i).take (1 + 3 * k)) ls)] w' → ReadE zs (i : Int) (k : Int) w (.returned (.tuple #[v, .int .i64 0])) w') := hid (fun ls v w' hu hl hr s => by
      unfold ReadE
      rw [if_pos hfz]
      simp only [Int.toNat_natCast]
      rw [readS_some hu hl hr]
      exact ⟨v, rfl, s⟩)
    have HNo : Hid (∀ its w', readS ((zs.drop i).take (1 + 3 * k)) k = none → St w its w' → ReadE zs (i : Int) (k : Int) w (.returned (.tuple #[.slice none 0 0, .int .i64 191])) w') := hid (fun its w' hu s => by
      unfold ReadE
      rw [if_pos hfz]
      simp only [Int.toNat_natCast]
      rw [hu]
      exact ⟨trivial, s.same⟩)
    generalize ReadE zs (i : Int) (k : Int) w = Q at *
    generalize (zs.drop i).take (1 + 3 * k) = P at *
    have hk : k ≤ 60 := by omega
    have hk1 : 0 < k := by omega
    have tz : ((1 + 3 * (k : Int)) == 0) = false := by simp; omega
    have tb : decide ((i : Int) < 0) = false := by simp
    have tc : decide ((m : Int) < (i : Int)) = false := decide_eq_false (by omega)
    have td : decide ((m : Int) - (i : Int) < 1 + 3 * (k : Int)) = false := decide_eq_false (by omega)
    have te : decide (m < i) = false := decide_eq_false (by omega)
    have HP := hid hP
    have HC := hid hcr
    have HS0 : Hid (St w [lstE (.slice none 0 0) (outM P [])] w) := hid (e_nil (St.nil w))
    have HK : Hid (k ≤ 60 ∧ 0 < k) := hid ⟨hk, hk1⟩
    clear hX hfz h0 h3 hb0 hb1 hml hz hP hcr
    go_enter Tryz.func18, Tryz.ntmps18
    go_wp2_with (first | (go_at_call 12; refine (hQ _).mono ?_; rintro e w' ⟨rfl, rfl⟩) | simp only [hsl])
    go_loopw [10, 11, 12] (fun v u q wr => ∃ (j : Nat) (ls : List Pr), q = .int .i64 j ∧ u = .int .i64 (ls.length : Nat) ∧ j ≤ k ∧ usedM P j = some ls ∧ (∀ p ∈ ls, reachM P k p.1 p.2.toNat = true) ∧ St w' [lstE v (outM P ls)] wr) (fun _ _ q _ => k - (intOf q).toNat)
    case atStart => exact ⟨0, [], rfl, rfl, Nat.zero_le _, rfl, by simp, HS0.out⟩
    case round =>
      clear HS0 hsl hQ tz tb tc td te hi1
      obtain ⟨j, ls, rfl, rfl, hj, hu, hr, hs⟩ := hrel
      obtain ⟨hg, hgl, hgp⟩ := usedM_good HC.out hu
      have hll : (ls.length : Int) ≤ 60 := by omega
      by_cases hlt : j < k
      · have hlt' : (j : Int) < (k : Int) := by omega
        have hj6 : (j : Int) < 60 := by omega
        have hj0 : (0 : Int) ≤ (j : Int) := by omega
        have hXr := HP.out.kept hs.same
        have c1 := hXr.cell (j := 1 + 3 * j) (by omega)
        have c2 := hXr.cell (j := 2 + 3 * j) (by omega)
        have c3 := hXr.cell (j := 3 + 3 * j) (by omega)
        have e1 : P.getD (1 + 3 * j) 0 = stA P j := rfl
        have e2 : P.getD (2 + 3 * j) 0 = keyA P j := rfl
        have e3 : P.getD (3 + 3 * j) 0 = valA P j := rfl
        have hkr := HC.out (2 + 3 * j)
        rw [e1] at c1
        rw [e2] at c2 hkr
        rw [e3] at c3
        have hus : usedM P (j + 1) = if stA P j = 0 ∨ stA P j = 2 then some ls else if stA P j = 1 then (match atP ls (keyA P j) with | some _ => none | none => some ((keyA P j, (j : Int)) :: ls)) else none := by
          rw [usedM, hu]
          rfl
        have n1 : (1 + 3 * (j : Int)).toNat = 1 + 3 * j := by omega
        have n2 : (2 + 3 * (j : Int)).toNat = 2 + 3 * j := by omega
        have n3 : (3 + 3 * (j : Int)).toNat = 3 + 3 * j := by omega
        have p1 : 1 + 3 * (j : Int) < ((1 + 3 * k : Nat) : Int) := by omega
        have p2 : 2 + 3 * (j : Int) < ((1 + 3 * k : Nat) : Int) := by omega
        have p3 : 3 + 3 * (j : Int) < ((1 + 3 * k : Nat) : Int) := by omega
        by_cases hs1 : stA P j = 1
        · rw [if_neg (by omega), if_pos hs1] at hus
          rw [hs1] at c1
          have HDup : Hid (∀ q, q < j → stA P q = 1 → keyA P q = keyA P j → readS P k = none) := hid (fun q hq h1 h2 => readS_none (usedM_none (i := j + 1) (by omega) (by
            rw [hus]
            obtain ⟨v, hv⟩ := (used_has hu (keyA P j)).2 ⟨q, hq, h1, h2⟩
            cases h : atP ls (keyA P j) with
            | some _ => rfl
            | none => exact absurd rfl (atP_none h _ hv))))
          have HNew : Hid ((∀ q, q < j → ¬ (stA P q = 1 ∧ keyA P q = keyA P j)) → (∀ p ∈ ls, p.1 ≠ keyA P j) ∧ usedM P (j + 1) = some ((keyA P j, (j : Int)) :: ls)) := hid (fun hno => by
            have hnk : ∀ p ∈ ls, p.1 ≠ keyA P j := fun p hp e => by
              obtain ⟨q, hq, hh⟩ := (used_has hu (keyA P j)).1 ⟨p.2, by rw [← e]; exact hp⟩
              exact hno q hq hh
            refine ⟨hnk, ?_⟩
            rw [hus]
            cases h : atP ls (keyA P j) with
            | none => rfl
            | some v => exact absurd rfl (hnk _ (atP_some h)))
          have hH := rhome_any (keyA P j) k HK.out.2 HK.out.1 hkr.1 hkr.2
          have hhl := home_lt (keyA P j) HK.out.2
          obtain ⟨rr, hrr⟩ : ∃ rr, rr = reachM P k (keyA P j) j := ⟨_, rfl⟩
          have HRR := hid hrr
          have HStart : Hid (noFree P k (homeM (keyA P j) k) (wayM k (homeM (keyA P j) k) j) = rr) := hid hrr.symm
          have HFar : Hid (rr = false → (∀ q, q < j → ¬ (stA P q = 1 ∧ keyA P q = keyA P j)) → readS P k = none) := hid (fun hf hno => readS_far (i := j + 1) (by omega) (HNew.out hno).2 (List.mem_cons_self ..) (by rw [hrr] at hf; simpa using hf))
          have HR := hid hr
          have HS := hid hs
          have HG := hid hg
          have HU := hid hu
          have HKr := hid hkr
          have HLT := hid hlt
          have HLen : Hid ((outM P ls).length ≤ 60) := hid (by rw [outM_length]; omega)
          have HPut : Hid ((∀ p ∈ ls, p.1 ≠ keyA P j) → outM P ((keyA P j, (j : Int)) :: ls) = lessP (outM P ls) (keyA P j) ++ [(keyA P j, valA P j)] ++ moreP (outM P ls) (keyA P j)) := hid (fun h => out_put hg h)
          clear hus hr hs hu hXr e1 e2 e3 hs1 hg hgl hgp c3 hrr hkr
          generalize hkey : keyA P j = key at *
          clear hkey
          go_wp2
          go_loopw [15] (fun v wq => ∃ q : Nat, v = .int .i64 q ∧ q ≤ j ∧ (∀ q', q' < q → ¬ (stA P q' = 1 ∧ keyA P q' = key)) ∧ St w' [lstE u10 (outM P ls)] wq) (fun v _ => j - (intOf v).toNat)
          case atStart => exact ⟨0, rfl, Nat.zero_le _, by intro q' h; omega, HS.out⟩
          case round =>
            clear HS
            obtain ⟨q, rfl, hq, hno, hs⟩ := hrel
            by_cases hqj : q < j
            · have hqj' : (q : Int) < (j : Int) := by omega
              have hq0 : (0 : Int) ≤ (q : Int) := by omega
              have m1 : (1 + 3 * (q : Int)).toNat = 1 + 3 * q := by omega
              have m2 : (2 + 3 * (q : Int)).toNat = 2 + 3 * q := by omega
              have o1 : 1 + 3 * (q : Int) < ((1 + 3 * k : Nat) : Int) := by omega
              have o2 : 2 + 3 * (q : Int) < ((1 + 3 * k : Nat) : Int) := by omega
              have hXq := HP.out.kept hs.same
              have d1 := hXq.cell (j := 1 + 3 * q) (by omega)
              have d2 := hXq.cell (j := 2 + 3 * q) (by omega)
              have e1 : P.getD (1 + 3 * q) 0 = stA P q := rfl
              have e2 : P.getD (2 + 3 * q) 0 = keyA P q := rfl
              rw [e1] at d1
              rw [e2] at d2
              have HSq := hid hs
              have HNoq := hid hno
              have HQJ := hid hqj
              clear hXq e1 e2 hs hno c1 c2
              by_cases hq1 : stA P q = 1
              · by_cases hq2 : keyA P q = key
                · have HQ := hid (HNo.out _ _ (HDup.out q hqj hq1 hq2) HSq.out)
                  rw [hq1] at d1
                  rw [hq2] at d2
                  clear hq1 hq2 HDup HNew HFar HStart HPut
                  go_wp2
                  exact HQ.out
                · have HN2 : Hid (∀ q', q' < q + 1 → ¬ (stA P q' = 1 ∧ keyA P q' = key)) := hid (fun q' h => by
                    by_cases e : q' = q
                    · subst e; exact fun hh => hq2 hh.2
                    · exact HNoq.out q' (by omega))
                  rw [hq1] at d1
                  have tk : (keyA P q == key) = false := by simpa using hq2
                  generalize keyA P q = kq at *
                  clear hq1 hq2
                  go_wp2
                  go_roundw
                  case rel => exact ⟨q + 1, by push_cast; rfl, HQJ.out, HN2.out, HSq.out⟩
                  case measure => have := HQJ.out; simp [intOf]; omega
              · have HN2 : Hid (∀ q', q' < q + 1 → ¬ (stA P q' = 1 ∧ keyA P q' = key)) := hid (fun q' h => by
                  by_cases e : q' = q
                  · subst e; exact fun hh => hq1 hh.1
                  · exact HNoq.out q' (by omega))
                have ts : (stA P q == 1) = false := by simpa using hq1
                generalize stA P q = sq at *
                clear hq1
                go_wp2
                go_roundw
                case rel => exact ⟨q + 1, by push_cast; rfl, HQJ.out, HN2.out, HSq.out⟩
                case measure => have := HQJ.out; simp [intOf]; omega
            · obtain rfl : q = j := by omega
              have tq : ¬ (q : Int) < (q : Int) := by omega
              obtain ⟨hnk, hus⟩ := HNew.out hno
              have HNk := hid hnk
              have HUs := hid hus
              have HFar2 : Hid (rr = false → readS P k = none) := hid (fun hf => HFar.out hf hno)
              have HSq := hid hs
              have hput := HPut.out hnk
              have HPut2 := hid hput
              have HHL := hid hhl
              clear hs hno hnk hus hput HNew HDup HFar HPut c1 c2 hhl
              generalize hhm : homeM key k = hm0 at *
              clear hhm
              go_wp2_with (go_at_call 38; refine (hH _).mono ?_; rintro e w8 ⟨rfl, rfl⟩)
              go_loopw [16] (fun v wa => ∃ a : Nat, v = .int .i64 a ∧ a < k ∧ noFree P k a (wayM k a q) = rr ∧ St w' [lstE u10 (outM P ls)] wa) (fun v _ => wayM k (intOf v).toNat q)
              case atStart => exact ⟨hm0, rfl, HHL.out, HStart.out, HSq.out⟩
              case round =>
                clear HSq HStart HHL hH
                obtain ⟨a, rfl, ha, hr, hs⟩ := hrel
                by_cases he : a = q
                · subst he
                  have ta : ((a : Int) != (a : Int)) = false := by simp
                  rw [way_zero] at hr
                  simp only [noFree] at hr
                  obtain ⟨la2, lc2, rfl, hE, -, -⟩ := own_ein (show wr.ownsRow 0 41 2 u10 (outM P ls).length (eC (outM P ls)) from hs.get 0 rfl)
                  have hXa := HP.out.kept hs.same
                  have d3 := hXa.cell (j := 3 + 3 * a) (by omega)
                  have e3 : P.getD (3 + 3 * a) 0 = valA P a := rfl
                  rw [e3] at d3
                  have hput := rput_any la2 (outM P ls).length lc2 (outM P ls) key (valA P a) wr hE (by have := HLen.out; omega)
                  rw [← HPut2.out] at hput
                  have HRch : Hid (∀ p ∈ (key, (a : Int)) :: ls, reachM P k p.1 p.2.toNat = true) := hid (fun p hp => by
                    rcases List.mem_cons.1 hp with rfl | hp
                    · simp only [Int.toNat_natCast]
                      rw [← HRR.out, ← hr]
                    · exact HR.out p hp)
                  have HSa := hid hs
                  clear hr hXa e3 hE hs HPut2 HFar2 HRR
                  generalize valA P a = vl at *
                  generalize (outM P ls).length = ol at *
                  go_wp2_with (go_at_call 39; refine hput.mono ?_; rintro e w6 ⟨v6, rfl, s6⟩; have HS6 := hid s6; clear s6)
                  go_roundw
                  case rel => exact ⟨a + 1, (key, (a : Int)) :: ls, by push_cast; rfl, by simp, HLT.out, HUs.out, HRch.out, HS6.out.base HSa.out.same⟩
                  case measure => have := HLT.out; simp [intOf]; omega
                · have ta : ((a : Int) != (q : Int)) = true := by simp; omega
                  rw [way_next ha HLT.out he] at hr
                  simp only [noFree] at hr
                  have hXa := HP.out.kept hs.same
                  have d1 := hXa.cell (j := 1 + 3 * a) (by omega)
                  have e1 : P.getD (1 + 3 * a) 0 = stA P a := rfl
                  rw [e1] at d1
                  have ha6 : (a : Int) < 60 := by omega
                  have ha0 : (0 : Int) ≤ (a : Int) := by omega
                  have m1 : (1 + 3 * (a : Int)).toNat = 1 + 3 * a := by omega
                  have o1 : 1 + 3 * (a : Int) < ((1 + 3 * k : Nat) : Int) := by omega
                  have hmn := mod_next a k HK.out.2
                  have hnx : (a + 1) % k < k := Nat.mod_lt _ HK.out.2
                  have hway := hid (way_next ha HLT.out he)
                  have t0 : ((k : Int) == 0) = false := by simp; omega
                  have HSa := hid hs
                  by_cases hs0 : stA P a = 0
                  · rw [hs0] at d1
                    simp only [hs0, ne_eq, not_true_eq_false, decide_false, Bool.false_and] at hr
                    have HQ := hid (HNo.out _ _ (HFar2.out hr.symm) hs)
                    clear hr hs hXa e1 hs0 hmn hnx hway
                    go_wp2
                    exact HQ.out
                  · have ts : (stA P a == 0) = false := by simpa using hs0
                    simp only [ne_eq, hs0, not_false_eq_true, decide_true, Bool.true_and] at hr
                    have HR2 := hid hr
                    have hnx2 : (((a + 1) % k : Nat) : Int) ≤ 60 := by omega
                    have HNX := hid hnx
                    generalize stA P a = sa at *
                    clear hr hs hXa e1 hs0 hnx
                    generalize hzz : (a + 1) % k = z at *
                    clear hzz
                    go_wp2_with (simp only [hmn])
                    go_roundw
                    case rel => exact ⟨z, rfl, HNX.out, HR2.out, HSa.out⟩
                    case measure =>
                      have := hway.out
                      simp [intOf]
                      omega
        · by_cases hs02 : stA P j = 0 ∨ stA P j = 2
          · rw [if_pos hs02] at hus
            have HR : Hid (∃ (j2 : Nat) (ls2 : List Pr), (Value.int .i64 ((j : Int) + 1)) = .int .i64 j2 ∧ (Value.int .i64 ((ls.length : Nat) : Int)) = .int .i64 (ls2.length : Nat) ∧ j2 ≤ k ∧ usedM P j2 = some ls2 ∧ (∀ p ∈ ls2, reachM P k p.1 p.2.toNat = true) ∧ St w' [lstE u10 (outM P ls2)] wr) := hid ⟨j + 1, ls, by push_cast; rfl, rfl, hlt, hus, hr, hs⟩
            have t1 : (stA P j != 1) = true := by simpa using hs1
            have t2 : decide (stA P j < 0) = false := decide_eq_false (by omega)
            have t3 : decide (2 < stA P j) = false := decide_eq_false (by omega)
            generalize stA P j = s at *
            have HJ := hid hlt
            clear hus hr hs hu hXr e1 e2 e3 hs02 hs1 hg hgl hgp c2 c3
            go_wp2
            go_roundw
            case rel => exact HR.out
            case measure => have := HJ.out; simp [intOf]; omega
          · rw [if_neg hs02, if_neg hs1] at hus
            have HQ := hid (HNo.out _ _ (readS_none (usedM_none (by omega) hus)) hs)
            by_cases t2 : stA P j < 0
            · have t2' : decide (stA P j < 0) = true := decide_eq_true t2
              generalize stA P j = s at *
              clear hus hr hs hu hXr e1 e2 e3 hs02 hs1 hg hgl hgp c2 c3 t2
              go_wp2
              exact HQ.out
            · have t2' : decide (stA P j < 0) = false := decide_eq_false t2
              have t3' : decide (2 < stA P j) = true := decide_eq_true (by omega)
              generalize stA P j = s at *
              clear hus hr hs hu hXr e1 e2 e3 hs02 hs1 hg hgl hgp c2 c3 t2
              go_wp2
              exact HQ.out
      · obtain rfl : j = k := by omega
        have h1' : ¬ (j : Int) < (j : Int) := by omega
        have c0 : wr.cell? ⟨g, o + i, none⟩ = some (.int .i64 (P.getD 0 0)) := (HP.out.kept hs.same).cell (j := 0) (by omega)
        have p0 : (0 : Int) < ((1 + 3 * j : Nat) : Int) := by omega
        by_cases hlz : (ls.length : Int) = P.getD 0 0
        · have HQ := hid (HYs.out ls _ _ hu hlz hr hs)
          have tz : (P.getD 0 0 != (ls.length : Int)) = false := by rw [hlz]; simp
          generalize P.getD 0 0 = z at *
          clear hu hr hs hg hgl hgp hlz
          go_wp2
          exact HQ.out
        · have HQ := hid (HNo.out _ _ (readS_count hu hlz) hs)
          have tz : (P.getD 0 0 != (ls.length : Int)) = true := by simpa using fun h => hlz h.symm
          generalize P.getD 0 0 = z at *
          clear hu hr hs hg hgl hgp hlz
          go_wp2
          exact HQ.out
  · have HQ : Hid (ReadE zs base n w (.returned (.tuple #[.slice none 0 0, .int .i64 190])) w) := hid (by
      unfold ReadE
      rw [if_neg (by rw [← hml]; exact h)]
      exact ⟨rfl, Kept.refl _ _⟩)
    have hw : roomS n = 0 ∨ (roomS n ≠ 0 ∧ base < 0) ∨ (roomS n ≠ 0 ∧ 0 ≤ base ∧ (m : Int) < base) ∨ (roomS n ≠ 0 ∧ 0 ≤ base ∧ base ≤ m ∧ (m : Int) - base < roomS n ∧ roomS n ≤ 181) := by
      unfold fitsS at h
      simp only [Bool.and_eq_true, decide_eq_true_eq] at h
      by_cases hr : roomS n = 0
      · exact .inl hr
      · have h5 : 0 ≤ roomS n ∧ roomS n ≤ 181 := by unfold roomS; split <;> omega
        by_cases h7 : base < 0
        · exact .inr (.inl ⟨hr, h7⟩)
        · by_cases h8 : (m : Int) < base
          · exact .inr (.inr (.inl ⟨hr, by omega, h8⟩))
          · exact .inr (.inr (.inr ⟨hr, by omega, by omega, by omega, h5.2⟩))
    generalize ReadE zs base n w = Q at *
    clear hX h hml hz
    generalize roomS n = r at *
    rcases hw with rfl | ⟨hr, hb⟩ | ⟨hr, hb, hc⟩ | ⟨hr, hb, hc, hd, hd2⟩
    · go_enter Tryz.func18, Tryz.ntmps18
      go_wp2_with (go_at_call 12; refine (hQ _).mono ?_; rintro e w' ⟨rfl, rfl⟩)
      exact HQ.out
    · have tz : (r == 0) = false := by simpa using hr
      have tb : decide (base < 0) = true := decide_eq_true hb
      clear hr hb
      go_enter Tryz.func18, Tryz.ntmps18
      go_wp2_with (go_at_call 12; refine (hQ _).mono ?_; rintro e w' ⟨rfl, rfl⟩)
      exact HQ.out
    · have tz : (r == 0) = false := by simpa using hr
      have tb : decide (base < 0) = false := decide_eq_false (by omega)
      have tc : decide ((m : Int) < base) = true := decide_eq_true hc
      clear hr hb
      go_enter Tryz.func18, Tryz.ntmps18
      go_wp2_with (go_at_call 12; refine (hQ _).mono ?_; rintro e w' ⟨rfl, rfl⟩)
      exact HQ.out
    · have tz : (r == 0) = false := by simpa using hr
      have tb : decide (base < 0) = false := decide_eq_false (by omega)
      have tc : decide ((m : Int) < base) = false := decide_eq_false (by omega)
      have td : decide ((m : Int) - base < r) = true := decide_eq_true hd
      clear hr
      go_enter Tryz.func18, Tryz.ntmps18
      go_wp2_with (go_at_call 12; refine (hQ _).mono ?_; rintro e w' ⟨rfl, rfl⟩)
      exact HQ.out
end Go.Proofs.YtbpilhjomfkpaaaGreatDoor

namespace Go.Proofs.YtbpilhjomfkpaaaGreatDoor
open Go.RowKit
set_option linter.unusedVariables false
set_option linter.unusedSimpArgs false
attribute [local go_sem ↓] Go.wp_at_zero Go.wp_at_succ

theorem pig : ∀ (n : Nat) (U : List Nat), (∀ q, q < n → q ∈ U) → n ≤ U.length
  | 0, _, _ => Nat.zero_le _
  | n + 1, U, h => by
    have h1 := pig n (U.erase n) (fun q hq => (List.mem_erase_of_ne (by omega)).2 (h q (by omega)))
    have h2 := h n (by omega)
    rw [List.length_erase_of_mem h2] at h1
    have := List.length_pos_of_mem h2
    omega
theorem free_place {c : List Int} {n : Nat} {U : List Nat} (hU : ∀ q, q < n → stA c q = 1 → q ∈ U) (hl : U.length < n) : ∃ p, p < n ∧ stA c p ≠ 1 := by
  apply Classical.byContradiction
  intro hno
  have : n ≤ U.length := pig n U (fun q hq => hU q hq (Classical.byContradiction fun h => hno ⟨q, hq, h⟩))
  omega
theorem getD_ne {c : List Int} {i j : Nat} {x : Int} (h : i ≠ j) : (c.set i x).getD j 0 = c.getD j 0 := by
  simp only [List.getD_eq_getElem?_getD]
  rw [List.getElem?_set_ne h]
theorem st_three {c : List Int} {n p : Nat} (k v : Int) {U : List Nat} (hU : ∀ q, q < n → stA c q = 1 → q ∈ U) : ∀ q, q < n → stA (((c.set (1 + 3 * p) 1).set (2 + 3 * p) k).set (3 + 3 * p) v) q = 1 → q ∈ p :: U := by
  intro q hq h
  by_cases e : q = p
  · subst e; simp
  · refine List.mem_cons_of_mem _ (hU q hq ?_)
    unfold stA at h ⊢
    rw [getD_ne (by omega), getD_ne (by omega), getD_ne (by omega)] at h
    exact h
def AllR (c : List Int) : Prop := ∀ z ∈ c, Rg z
theorem AllR.put {c : List Int} (h : AllR c) (i : Nat) {x : Int} (hx : Rg x) : AllR (c.set i x) := fun z hz => by
  rcases List.mem_or_eq_of_mem_set hz with h1 | h1
  · exact h z h1
  · rw [h1]; exact hx
theorem AllR.zero (n : Nat) : AllR (List.replicate n 0) := fun z hz => by
  rw [List.eq_of_mem_replicate hz]
  exact ⟨by decide, by decide⟩
set_option maxRecDepth 100000 in
set_option maxHeartbeats 16000000 in
theorem Lay_any (la : Option Addr) (m lc : Nat) (ps : List Pr) (k : Nat) (seed : Int) (w : World) (hX : EIn w la m ps) (hr : ∀ p ∈ ps, Rg p.1 ∧ Rg p.2) (hm : m ≤ k) (h1 : 1 ≤ k) (h2 : k ≤ 60) (hs : Rg seed) :
    Calls Tryz.prog 20 #[.slice la m lc, .int .i64 (k : Int), .int .i64 seed] w fun e w' =>
      ∃ g zs, e = .returned (.slice (some ⟨g, 0, none⟩) (1 + 3 * k) (1 + 3 * k)) ∧ AllR zs ∧ St w [rowI g (1 + 3 * k) (1 + 3 * k) zs] w' := by
  have hmk := makeX (1 + 3 * k) (1 + 3 * (k : Int)) (by push_cast; rfl) (by omega) w
  have s0 : St w (rowI w.heap.size (1 + 3 * k) (1 + 3 * k) (List.replicate (1 + 3 * k) 0) :: []) (w.alloc (.cells (xC (List.replicate (1 + 3 * k) 0)).toArray 2)) := by
    have := (St.nil w).new64 (List.replicate (1 + 3 * k) 0) (by rw [List.length_replicate]; unfold maxLen; omega)
    rw [List.length_replicate] at this
    exact this
  generalize hzz : xC (List.replicate (1 + 3 * k) 0) = zz at *
  clear hzz
  generalize hw1 : w.alloc (.cells zz.toArray 2) = w1 at *
  generalize hgg : w.heap.size = g at *
  have c0 := row_cell s0 (j := 0) (by omega)
  have f0 := row_frozen s0 0
  have s1 := row_set s0 (j := 0) (by omega) (m : Int)
  have hA1 : AllR ((List.replicate (1 + 3 * k) 0).set 0 (m : Int)) := (AllR.zero _).put 0 ⟨by omega, by omega⟩
  have hU1 : ∀ q, q < k → stA ((List.replicate (1 + 3 * k) 0).set 0 (m : Int)) q = 1 → q ∈ ([] : List Nat) := fun q hq h => by
    unfold stA at h
    rw [getD_ne (by omega), List.getD_eq_getElem?_getD, List.getElem?_replicate] at h
    split at h <;> simp at h
  generalize (List.replicate (1 + 3 * k) 0).set 0 (m : Int) = cc0 at *
  generalize (List.replicate (1 + 3 * k) (0 : Int)).getD 0 0 = z00 at *
  generalize hw2 : w1.setCell ⟨g, 0, none⟩ (.int .i64 (m : Int)) = w2 at *
  have HS1 := hid s1
  have HA1 := hid hA1
  have HU1 := hid hU1
  have HX := hid hX
  have HR := hid hr
  have hk6 : (k : Int) ≤ 60 := by omega
  have hk1 : (1 : Int) ≤ (k : Int) := by omega
  have hmk6 : (m : Int) ≤ (k : Int) := by omega
  have q0 : (0 : Int) < ((1 + 3 * k : Nat) : Int) := by omega
  have b1 : seed.tmod 1000003 < 1000003 := Int.tmod_lt_of_pos seed (by omega)
  have b0 : -(1000003 : Int) < seed.tmod 1000003 := by
    have := Int.lt_tmod_of_pos seed (show (0 : Int) < 1000003 by omega)
    omega
  clear s0 s1 hA1 hU1 hX hr hs
  generalize hx : seed.tmod 1000003 = x at *
  obtain ⟨s, hs6, hcase⟩ : ∃ s : Nat, s ≤ 1000003 ∧ ((decide (x < 0) = true ∧ -(x + 1) = (s : Int)) ∨ (decide (x < 0) = false ∧ x = (s : Int))) := by
    by_cases h : x < 0
    · exact ⟨(-(x + 1)).toNat, by omega, .inl ⟨decide_eq_true h, by omega⟩⟩
    · exact ⟨x.toNat, by omega, .inr ⟨decide_eq_false h, by omega⟩⟩
  rcases hcase with ⟨tn, es⟩ | ⟨tn, es⟩
  all_goals
    go_enter Tryz.func20, Tryz.ntmps20
    go_wp2_with (first | simp only [hmk, hw1, hgg] | simp only [hx] | simp only [es] | simp only [hw2])
    clear hmk hw1 hgg hx es tn b0 b1 c0 f0 hw2
    go_loopw [8] (fun i wr => ∃ (t : Nat) (c : List Int) (U : List Nat), i = .int .i64 t ∧ t ≤ m ∧ U.length = t ∧ AllR c ∧ (∀ q, q < k → stA c q = 1 → q ∈ U) ∧ St w [rowI g (1 + 3 * k) (1 + 3 * k) c] wr) (fun i _ => m - (intOf i).toNat)
    case atStart => exact ⟨0, cc0, [], rfl, Nat.zero_le _, rfl, HA1.out, HU1.out, HS1.out⟩
    case round =>
      clear HS1 HA1 HU1
      obtain ⟨t, c, U, rfl, ht, hUl, hA, hU, hst⟩ := hrel
      by_cases hlt : t < m
      · obtain ⟨p, hp, hpf⟩ := free_place hU (by omega)
        obtain ⟨d, hd, ed⟩ : ∃ d : Nat, d < m ∧ ((t : Int) + (s : Int)).tmod (m : Int) = (d : Int) := by
          have h3 := Int.tmod_lt_of_pos ((t : Int) + (s : Int)) (show (0 : Int) < (m : Int) by omega)
          have h4 := Int.tmod_nonneg (m : Int) (show (0 : Int) ≤ (t : Int) + (s : Int) by omega)
          exact ⟨(((t : Int) + (s : Int)).tmod (m : Int)).toNat, by omega, by omega⟩
        obtain ⟨g2, o2, rfl⟩ := HX.out.addr (by omega)
        obtain ⟨e0, e1⟩ := (HX.out.kept hst.same).cells (j := d) hd
        have hdl : d < ps.length := by rw [← HX.out.1]; exact hd
        have hrg := HR.out (ps.getD d (0, 0)) (by rw [List.getD_eq_getElem?_getD, List.getElem?_eq_getElem hdl]; exact List.getElem_mem _)
        have s5 := hst.box #[.int .i64 (ps.getD d (0, 0)).1, .int .i64 (ps.getD d (0, 0)).2] 41
        generalize ps.getD d (0, 0) = kv at *
        obtain ⟨ky, vl⟩ := kv
        simp only at e0 e1 hrg s5
        generalize hw5 : wr.alloc (.cells #[.int .i64 ky, .int .i64 vl] 41) = w5 at *
        generalize hN5 : wr.heap.size = N5 at *
        have HS5 := hid (s5.perm (List.Perm.swap _ _ _))
        have g0 : w5.cell? ⟨N5, 0, none⟩ = some (.int .i64 ky) := s5.cell 0 rfl 0
        have hH := rhome_any ky k (by omega) h2 hrg.1.1 hrg.1.2
        have hhl := home_lt ky (n := k) (by omega)
        generalize homeM ky k = hm0 at *
        have HRg := hid hrg
        have HHL := hid hhl
        have HU := hid hU
        have HUl := hid hUl
        have HA := hid hA
        have HP := hid (And.intro hp hpf)
        have HLT := hid hlt
        have t2 : (t : Int) < (m : Int) := by omega
        have d0 : (0 : Int) ≤ (d : Int) := by omega
        have d1 : (d : Int) < (m : Int) := by omega
        have tm : ((m : Int) == 0) = false := by simp; omega
        have hs0 : (0 : Int) ≤ (s : Int) := by omega
        have hs1 : (s : Int) ≤ 1000003 := by omega
        have ht0 : (0 : Int) ≤ (t : Int) := by omega
        clear hst s5 hrg hU hUl hA hp hpf hhl hdl hlt
        go_wp2_with (first | simp only [ed] | simp only [hw5, hN5] | (go_at_call 38; refine (hH _).mono ?_; rintro e w8 ⟨rfl, rfl⟩))
        go_loopw [10] (fun v wa => ∃ a : Nat, v = .int .i64 a ∧ a < k ∧ St w [rowI g (1 + 3 * k) (1 + 3 * k) c, boxI N5 #[.int .i64 ky, .int .i64 vl] 41] wa) (fun v _ => wayM k (intOf v).toNat p)
        case atStart => exact ⟨hm0, rfl, HHL.out, HS5.out⟩
        case round =>
          clear HS5 HHL hH g0 e0 e1
          obtain ⟨a, rfl, ha, hsa⟩ := hrel
          have ha6 : (a : Int) < 60 := by omega
          have ha0 : (0 : Int) ≤ (a : Int) := by omega
          have n1 : (1 + 3 * (a : Int)).toNat = 1 + 3 * a := by omega
          have n2 : (2 + 3 * (a : Int)).toNat = 2 + 3 * a := by omega
          have n3 : (3 + 3 * (a : Int)).toNat = 3 + 3 * a := by omega
          have o1 : 1 + 3 * (a : Int) < ((1 + 3 * k : Nat) : Int) := by omega
          have o2' : 2 + 3 * (a : Int) < ((1 + 3 * k : Nat) : Int) := by omega
          have o3 : 3 + 3 * (a : Int) < ((1 + 3 * k : Nat) : Int) := by omega
          have c1 : wr.cell? ⟨g, 1 + 3 * a, none⟩ = some (.int .i64 (stA c a)) := row_cell hsa (by omega)
          have HAK := hid ha
          by_cases h1s : stA c a = 1
          · have hne : a ≠ p := fun e => HP.out.2 (e ▸ h1s)
            have hway := hid (way_next ha HP.out.1 hne)
            have hmn := mod_next a k (by omega)
            have hnx : (a + 1) % k < k := Nat.mod_lt _ (by omega)
            have hnx2 : (((a + 1) % k : Nat) : Int) ≤ 60 := by omega
            have t0 : ((k : Int) == 0) = false := by simp; omega
            have HNX := hid hnx
            have HSa := hid hsa
            rw [h1s] at c1
            clear hsa hnx h1s hne
            generalize hzz : (a + 1) % k = z at *
            clear hzz
            go_wp2_with (simp only [hmn])
            go_roundw
            case rel => exact ⟨z, rfl, HNX.out, HSa.out⟩
            case measure =>
              have := hway.out
              simp [intOf]
              omega
          · have ts : (stA c a == 1) = false := by simpa using h1s
            have f1 := row_frozen hsa (1 + 3 * a)
            have x1 := row_set hsa (j := 1 + 3 * a) (by omega) 1
            generalize hW1 : wr.setCell ⟨g, 1 + 3 * a, none⟩ (.int .i64 1) = W1 at *
            have c2 := row_cell x1 (j := 2 + 3 * a) (by omega)
            have f2 := row_frozen x1 (2 + 3 * a)
            have g1 : W1.cell? ⟨N5, 0, none⟩ = some (.int .i64 ky) := x1.cell 1 rfl 0
            have x2 := row_set x1 (j := 2 + 3 * a) (by omega) ky
            generalize hW2 : W1.setCell ⟨g, 2 + 3 * a, none⟩ (.int .i64 ky) = W2 at *
            have c3 := row_cell x2 (j := 3 + 3 * a) (by omega)
            have f3 := row_frozen x2 (3 + 3 * a)
            have g2' : W2.cell? ⟨N5, 1, none⟩ = some (.int .i64 vl) := x2.cell 1 rfl 1
            have x3 := row_set x2 (j := 3 + 3 * a) (by omega) vl
            generalize hW3 : W2.setCell ⟨g, 3 + 3 * a, none⟩ (.int .i64 vl) = W3 at *
            have hA3 := ((HA.out.put (1 + 3 * a) (x := 1) ⟨by decide, by decide⟩).put (2 + 3 * a) HRg.out.1).put (3 + 3 * a) HRg.out.2
            have hU3 := st_three (p := a) ky vl HU.out
            have HX3 := hid (St.cut (A := [_]) (B := [_]) x3)
            have HA3 := hid hA3
            have HU3 := hid hU3
            clear hsa x1 x2 x3 hA3 hU3 h1s
            generalize stA c a = sa at *
            generalize (List.set c (1 + 3 * a) 1).getD (2 + 3 * a) 0 = sb at *
            generalize ((List.set c (1 + 3 * a) 1).set (2 + 3 * a) ky).getD (3 + 3 * a) 0 = sc at *
            generalize ((List.set c (1 + 3 * a) 1).set (2 + 3 * a) ky).set (3 + 3 * a) vl = c9 at *
            go_wp2_with (first | simp only [hW1] | simp only [hW2] | simp only [hW3])
            go_roundw
            case rel => exact ⟨t + 1, c9, a :: U, by push_cast; rfl, HLT.out, by rw [List.length_cons, HUl.out], HA3.out, HU3.out, HX3.out⟩
            case measure => have := HLT.out; simp [intOf]; omega
      · have t2 : ¬ (t : Int) < (m : Int) := by omega
        have HS2 := hid hst
        have HA2 := hid hA
        clear hst hA hU hUl ht
        go_wp2
        go_loopw [11] (fun i wq => ∃ (j : Nat) (c2 : List Int), i = .int .i64 j ∧ j ≤ k ∧ AllR c2 ∧ St w [rowI g (1 + 3 * k) (1 + 3 * k) c2] wq) (fun i _ => k - (intOf i).toNat)
        case atStart => exact ⟨0, c, rfl, Nat.zero_le _, HA2.out, HS2.out⟩
        case round =>
          clear HS2 HA2
          obtain ⟨j, c2, rfl, hj, hA, hs2⟩ := hrel
          by_cases hjk : j < k
          · have hj6 : (j : Int) < 60 := by omega
            have hj0 : (0 : Int) ≤ (j : Int) := by omega
            have t3 : (j : Int) < (k : Int) := by omega
            have n1 : (1 + 3 * (j : Int)).toNat = 1 + 3 * j := by omega
            have n2 : (2 + 3 * (j : Int)).toNat = 2 + 3 * j := by omega
            have n3 : (3 + 3 * (j : Int)).toNat = 3 + 3 * j := by omega
            have o1 : 1 + 3 * (j : Int) < ((1 + 3 * k : Nat) : Int) := by omega
            have o2' : 2 + 3 * (j : Int) < ((1 + 3 * k : Nat) : Int) := by omega
            have o3 : 3 + 3 * (j : Int) < ((1 + 3 * k : Nat) : Int) := by omega
            have c1 : wr.cell? ⟨g, 1 + 3 * j, none⟩ = some (.int .i64 (stA c2 j)) := row_cell hs2 (by omega)
            have HJ := hid hjk
            have hs0 : (0 : Int) ≤ (s : Int) := by omega
            have hs1 : (s : Int) ≤ 1000003 := by omega
            by_cases h0s : stA c2 j = 0
            · rw [h0s] at c1
              obtain ⟨d9, h9, e9⟩ : ∃ d9 : Nat, d9 < 9 ∧ (s : Int).tmod 9 = (d9 : Int) := by
                have h3 := Int.tmod_lt_of_pos (s : Int) (show (0 : Int) < 9 by omega)
                have h4 := Int.tmod_nonneg 9 hs0
                exact ⟨((s : Int).tmod 9).toNat, by omega, by omega⟩
              have f1 := row_frozen hs2 (1 + 3 * j)
              have x1 := row_set hs2 (j := 1 + 3 * j) (by omega) 2
              generalize hW1 : wr.setCell ⟨g, 1 + 3 * j, none⟩ (.int .i64 2) = W1 at *
              have c2' := row_cell x1 (j := 2 + 3 * j) (by omega)
              have f2 := row_frozen x1 (2 + 3 * j)
              have x2 := row_set x1 (j := 2 + 3 * j) (by omega) (d9 : Int)
              generalize hW2 : W1.setCell ⟨g, 2 + 3 * j, none⟩ (.int .i64 (d9 : Int)) = W2 at *
              have c3 := row_cell x2 (j := 3 + 3 * j) (by omega)
              have f3 := row_frozen x2 (3 + 3 * j)
              have x3 := row_set x2 (j := 3 + 3 * j) (by omega) (j : Int)
              generalize hW3 : W2.setCell ⟨g, 3 + 3 * j, none⟩ (.int .i64 (j : Int)) = W3 at *
              have HA3 := hid (((hA.put (1 + 3 * j) (x := 2) ⟨by decide, by decide⟩).put (2 + 3 * j) (x := (d9 : Int)) ⟨by omega, by omega⟩).put (3 + 3 * j) (x := (j : Int)) ⟨by omega, by omega⟩)
              have HX3 := hid x3
              have HS2 := hid hs2
              have HA2 := hid hA
              clear hs2 hA x1 x2 x3 h0s
              generalize (List.set c2 (1 + 3 * j) 2).getD (2 + 3 * j) 0 = sb at *
              generalize ((List.set c2 (1 + 3 * j) 2).set (2 + 3 * j) (d9 : Int)).getD (3 + 3 * j) 0 = sc at *
              generalize ((List.set c2 (1 + 3 * j) 2).set (2 + 3 * j) (d9 : Int)).set (3 + 3 * j) (j : Int) = c9 at *
              go_wp2_with (first | simp only [e9] | simp only [hW1] | simp only [hW2] | simp only [hW3])
              all_goals go_roundw
              all_goals first | exact ⟨j + 1, c9, by push_cast; rfl, HJ.out, HA3.out, HX3.out⟩ | exact ⟨j + 1, c2, by push_cast; rfl, HJ.out, HA2.out, HS2.out⟩ | (have := HJ.out; simp [intOf]; omega)
            · have ts : (stA c2 j == 0) = false := by simpa using h0s
              have HS2 := hid hs2
              have HA2 := hid hA
              clear hs2 hA h0s
              generalize stA c2 j = sj at *
              go_wp2
              go_roundw
              case rel => exact ⟨j + 1, c2, by push_cast; rfl, HJ.out, HA2.out, HS2.out⟩
              case measure => have := HJ.out; simp [intOf]; omega
          · have t3 : ¬ (j : Int) < (k : Int) := by omega
            have HS2 := hid hs2
            have HA2 := hid hA
            clear hs2 hA
            go_wp2
            go_ret
            exact ⟨_, rfl, _, HA2.out, HS2.out⟩
end Go.Proofs.YtbpilhjomfkpaaaGreatDoor
