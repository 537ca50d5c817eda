/- A move of four threads, as it is counted who was doomed by whom. No program is named here. -/
import Derived.Test.YtnchfomoaonbkaaGreatTxCi
namespace Go.Proofs.YtnchfomoaonbkaaGreat
open Go.RowKit
set_option linter.unusedVariables false
set_option linter.unusedSimpArgs false
section
variable {g : Gp} {c : Cfg} {k0 : Nat} {C : Ch3}
theorem held_com {x : Tt} {y : Cm} (h : x.dg = .com y) : x.held = some (x.fr.sl, x.fr.gn, 2) := by unfold Tt.held; rw [h]
theorem Gp.own.uniq (ho : g.own) {i j : Nat} (hi : i < 4) (hj : j < 4) {s n a n' a' : Int} (h1 : (g.ts i).held = some (s, n, a)) (h2 : (g.ts j).held = some (s, n', a')) : i = j := by
  obtain ⟨p, p1, p2, p3, p4, p5⟩ := ho.up i hi s n a h1
  obtain ⟨q, q1, q2, q3, q4, q5⟩ := ho.up j hj s n' a' h2
  have : p = q := by omega
  subst this
  omega
/-- Who is doomed anew by a move. -/
theorem Chg.news (h : Chg g c C) (hk : g.ok c k0) (hg : g.gate c) (ho : g.own) (m : Mv) (s : Nat) (hn : newD g.z.hs (g.goes c m).z.hs s = true) :
    g.z.x.o = m.k + 1 ∧ (hAt (g.goes c m).z.hs s).wy = m.k + 1 ∧ s < g.z.hs.length ∧ (hAt g.z.hs s).sa = 2 ∧ (hAt g.z.hs s).gn = (hAt (g.goes c m).z.hs s).gn ∧ (hAt (g.goes c m).z.hs s).th = (hAt g.z.hs s).th ∧
    (∃ j : Nat, j < 4 ∧ j ≠ m.k ∧ (hAt g.z.hs s).th = j + 1 ∧ (g.ts j).held = some ((s : Int), (hAt g.z.hs s).gn, 2)) ∧ (∃ y d t l, (g.preT c m).dg = .com y ∧ (g.ts m.k).dg = .com y ∧ y.st = .doom d ∧ d.left = t :: l ∧ t.so = s) := by
  have hlt := m.k_lt
  have hph := hk.preHs m
  obtain ⟨px, -⟩ := pre_x g c m
  have hth : (g.preT c m).th = m.k + 1 := by rw [Gp.preT, callT_th]; exact hk.th _ hlt
  have hmine : (g.preT c m).mine c := callT_mine (hg.mine m.k hlt) g.z.hs.length m (g.again m.k)
  obtain ⟨ho', hst, hheld, hco⟩ := ho.goes hk hg m
  have hsane : ∀ y, (g.preT c m).dg = .com y → y.sane c g.z.x.n := callT_sane (h.sane m.k hlt) g.z.hs.length m (g.again m.k)
  have hn' : newD (g.preZ c m).hs ((g.preZ c m).steps c (g.preT c m)).hs s = true := by rw [hph]; exact hn
  obtain ⟨y, d, t, l, q1, q2, q3, q4, q5, q6, q7, q8⟩ := step_new hn'
  rw [hph] at q5 q6 q7 q8
  have q8' : hAt (g.goes c m).z.hs s = ⟨(hAt g.z.hs s).gn, (hAt g.z.hs s).sa, (hAt g.z.hs s).sp, (hAt g.z.hs s).th, true, d.wy⟩ := q8
  have hgs : (g.ts m.k).dg = .com y := by
    rcases callT_com (g.ts m.k) c g.z.hs.length m (g.again m.k) with ⟨y', r1, r2⟩ | ⟨r1, r2⟩
    · have : (g.preT c m).dg = .com y' := by unfold Gp.preT; rw [r2]; exact r1
      rw [q1] at this
      rw [r1]
      exact this.symm
    · have := (r2 y q1).1
      rw [q2] at this
      cases this
  have hhold : g.z.x.o = m.k + 1 := (hg.own m.k hlt).1 (by rw [hgs]; simp [Dg.holds, q2, Stg.holds])
  have hwy : d.wy = m.k + 1 := by
    have a1 := (hsane y q1).wy d q2
    have a2 := hmine.th y q1
    rw [a1, a2]
    exact hth
  obtain ⟨j, j1, j2, j3⟩ := ho.dn s q5 (by omega)
  rw [q6] at j3
  have hso := (hsane y q1).od d q2 t (by rw [q3]; simp)
  have hjk : j ≠ m.k := by
    intro e
    subst e
    have hh := held_com hgs
    rw [j3] at hh
    have e1 := (fst_eq hh).1
    have e2 := ((ho.co m.k hlt).cm y hgs).1
    apply hso
    rw [q4, e2, e1]
  rw [q8']
  exact ⟨hhold, hwy, q5, q6, rfl, rfl, ⟨j, j1, hjk, j2, j3⟩, y, d, t, l, q1, hgs, q2, q3, q4⟩
theorem Chg.goes (h : Chg g c C) (hk : g.ok c k0) (hg : g.gate c) (ho : g.own) (hv : g.liv) (m : Mv) :
    ∃ E, (g.goes c m).z.ev = g.z.ev ++ E ∧ evsOk c (dN g.z.hs (g.goes c m).z.hs g.z.x.n m.k C g.z.hs.length) E ∧ Chg (g.goes c m) c (E.foldl evC (dN g.z.hs (g.goes c m).z.hs g.z.x.n m.k C g.z.hs.length)) := by
  have hlt := m.k_lt
  have hph := hk.preHs m
  obtain ⟨px, -⟩ := pre_x g c m
  have hth : (g.preT c m).th = m.k + 1 := by rw [Gp.preT, callT_th]; exact hk.th _ hlt
  have hfit : (g.preT c m).fit c (g.preZ c m).hs.length k0 := by rw [hph]; exact hk.preT m
  have hmine : (g.preT c m).mine c := callT_mine (hg.mine m.k hlt) g.z.hs.length m (g.again m.k)
  obtain ⟨ho', hstep, hheld, hco⟩ := ho.goes hk hg m
  have hg' := (hg.goes hk m).1
  have hok' := hk.goes m
  have hsane : ∀ y, (g.preT c m).dg = .com y → y.sane c g.z.x.n := callT_sane (h.sane m.k hlt) g.z.hs.length m (g.again m.k)
  have hrd : ∀ r, (g.preT c m).dg = .rd r → r.st ≠ 4 := callT_rd (g.ts m.k) c g.z.hs.length m (g.again m.k) (hv.rd m.k hlt)
  have hat : (g.goes c m).ts m.k = (g.preT c m).next c (g.preZ c m) := upd_same _ _ _
  have hne : ∀ j, j ≠ m.k → (g.goes c m).ts j = g.ts j := fun j e => upd_ne _ e _
  have hll : (g.goes c m).z.hs.length = g.z.hs.length := by
    have a := hok'.z.hl
    have b := hk.z.hl
    omega
  have hhold : (g.preT c m).dg.holds = (g.ts m.k).dg.holds := callT_holds _ _ _ _ _
  have hodd : g.z.x.o ≠ 0 → g.z.x.n ≠ 0 := by
    intro q
    rcases hk.z.gk with ⟨a, b⟩ | ⟨a, b, d⟩ <;> omega
  have hnews := fun s hn => h.news hk hg ho m s hn
  -- who keeps the gate
  have hsamex : ∀ j, j < 4 → j ≠ m.k → (g.ts j).dg.holds = true → (g.goes c m).z.x = g.z.x := by
    intro j hj e hh
    have ho1 := (hg.own j hj).1 hh
    have hnk : (g.preT c m).dg.holds = false := by
      rw [hhold]
      cases hq : (g.ts m.k).dg.holds with
      | false => rfl
      | true =>
        have := (hg.own m.k hlt).1 hq
        omega
    have := steps_gate_same (c := c) (z := g.preZ c m) hnk (by rw [px]; omega)
    rw [px] at this
    exact this
  -- a head that is doomed, of another thread
  have hkeep : ∀ j, j < 4 → j ≠ m.k → ∀ s : Nat, ∀ n, (g.ts j).held = some ((s : Int), n, 2) → (hAt g.z.hs s).dm = true → hAt (g.goes c m).z.hs s = hAt g.z.hs s := by
    intro j hj e s n hh hd
    obtain ⟨p, p1, p2, p3, p4, p5⟩ := ho.up j hj _ _ _ hh
    have hps : p = s := by omega
    subst hps
    have := step_doomed (x := g.preT c m) (c := c) (z := g.preZ c m) (s := p) (by rw [hph]; exact hd) (by rw [hph]; exact p4) (by
      rw [hph, hheld]
      intro q
      exact e (ho.uniq hj hlt hh q)) (fun y q => ⟨(hco.cm y q).1, (hco.cm y q).2.1⟩)
    rw [hph] at this
    exact this
  -- what was noted
  obtain ⟨E1, e1, e2⟩ := callZ_ev (g.ts m.k) c m (g.z.turn (m.k + 1))
  obtain ⟨E2, f1, f2, f3⟩ := steps_ev (g.preT c m) c (g.preZ c m) (fun b q => (hfit.bg b q).st)
  obtain ⟨i1, i2⟩ := evs_idle (c := c) (C := dN g.z.hs (g.goes c m).z.hs g.z.x.n m.k C g.z.hs.length) (E := E1) (t := (g.ts m.k).th) (by rw [hk.th _ hlt]; omega) (by rw [hk.th _ hlt]; omega) e2
  refine ⟨E1 ++ E2, ?_, ?_⟩
  · have : (g.goes c m).z.ev = (g.preZ c m).ev ++ E2 := f1
    rw [this]
    have : (g.preZ c m).ev = g.z.ev ++ E1 := e1
    rw [this, List.append_assoc]
  rw [List.foldl_append, i2]
  -- the counts behind the dooming
  obtain ⟨C1, hC1⟩ : ∃ y, y = dN g.z.hs (g.goes c m).z.hs g.z.x.n m.k C g.z.hs.length := ⟨_, rfl⟩
  rw [← hC1] at i1 i2 ⊢
  have hway : (C1 = C ∧ ∀ s, newD g.z.hs (g.goes c m).z.hs s = false) ∨ (∃ s0, newD g.z.hs (g.goes c m).z.hs s0 = true ∧ (∀ s, s ≠ s0 → newD g.z.hs (g.goes c m).z.hs s = false) ∧ C1 = ⟨upd C.fl (hAt (g.goes c m).z.hs s0).th.toNat g.z.x.n, upd C.by_ (hAt (g.goes c m).z.hs s0).th.toNat (m.k + 1), upd C.nu (m.k + 1) g.z.x.n⟩) := by
    by_cases hx : ∃ s0, newD g.z.hs (g.goes c m).z.hs s0 = true
    · obtain ⟨s0, h0⟩ := hx
      right
      have hu : ∀ s, s ≠ s0 → newD g.z.hs (g.goes c m).z.hs s = false := by
        intro s hs
        cases hq : newD g.z.hs (g.goes c m).z.hs s with
        | false => rfl
        | true =>
          obtain ⟨-, -, -, -, -, -, -, y, d, t, l, q1, q2, q3, q4, q5⟩ := hnews s hq
          obtain ⟨-, -, -, -, -, -, -, y', d', t', l', r1, r2, r3, r4, r5⟩ := hnews s0 h0
          rw [q1] at r1
          cases r1
          rw [q3] at r3
          cases r3
          rw [q4] at r4
          cases r4
          omega
      exact ⟨s0, h0, hu, by rw [hC1]; exact dN_one (hnews s0 h0).2.2.1 h0 hu⟩
    · left
      have hu : ∀ s, newD g.z.hs (g.goes c m).z.hs s = false := by
        intro s
        cases hq : newD g.z.hs (g.goes c m).z.hs s with
        | false => rfl
        | true => exact absurd ⟨s, hq⟩ hx
      exact ⟨by rw [hC1]; exact dN_none (fun s _ => hu s), hu⟩
  -- where the thread is not dooming, nobody is doomed
  have hidle : (∀ y d, (g.preT c m).dg = .com y → y.st ≠ .doom d) → C1 = C := by
    intro q
    rcases hway with ⟨a, -⟩ | ⟨s0, a, -, -⟩
    · exact a
    · obtain ⟨-, -, -, -, -, -, -, y, d, t, l, q1, q2, q3, q4, q5⟩ := hnews s0 a
      exact absurd q3 (q y d q1)
  have hnuC : ∀ j, j < 4 → j ≠ m.k → C1.nu (j + 1) = C.nu (j + 1) := by
    intro j hj e
    rcases hway with ⟨a, -⟩ | ⟨s0, -, -, a⟩
    · rw [a]
    · rw [a]; exact upd_ne _ (by omega) _
  have hflC : ∀ j, j < 4 → ∀ s : Nat, ∀ n, (g.ts j).held = some ((s : Int), n, 2) → (hAt g.z.hs s).dm = true → C1.fl (j + 1) = C.fl (j + 1) ∧ C1.by_ (j + 1) = C.by_ (j + 1) := by
    intro j hj s n hh hd
    rcases hway with ⟨a, -⟩ | ⟨s0, a0, -, a⟩
    · rw [a]; exact ⟨rfl, rfl⟩
    · obtain ⟨-, -, -, -, -, q6, ⟨i, r1, r2, r3, r4⟩, -⟩ := hnews s0 a0
      have hij : i ≠ j := by
        intro e
        subst e
        rw [hh] at r4
        have := (fst_eq r4).1
        have e2 : s = s0 := by omega
        subst e2
        simp [newD, hd] at a0
      rw [a, q6, r3]
      have e3 : ((i : Int) + 1).toNat = i + 1 := by omega
      simp only [e3]
      exact ⟨upd_ne _ (by omega) _, upd_ne _ (by omega) _⟩
  -- the thread's own number
  have hnuk : C.nu (m.k + 1) ≠ 0 → ∃ y, (g.preT c m).dg = .com y ∧ y.st.holds = true ∧ y.st ≠ .own ∧ y.st ≠ .look ∧ y.st ≠ .up ∧ C.nu (m.k + 1) = g.z.x.n ∧ y.num = g.z.x.n := by
    intro q
    obtain ⟨y, a1, a2, a3, a4, a5, a6⟩ := h.nu m.k hlt q
    have : (g.preT c m).dg = .com y := by
      rcases callT_com (g.ts m.k) c g.z.hs.length m (g.again m.k) with ⟨y', r1, r2⟩ | ⟨r1, r2⟩
      · unfold Gp.preT; rw [r2]; exact a1
      · exact absurd a1 (r1 y)
    exact ⟨y, this, a2, a3, a4, a5, a6, (h.sane m.k hlt y a1).nm a2⟩
  -- the thread's own head, where it is doomed
  have hown7 : ∀ y, (g.preT c m).dg = .com y → y.e = 7 → (nowAt g.z.hs (g.preT c m).fr.sl).dm = true := by
    intro y q e7
    rcases callT_com (g.ts m.k) c g.z.hs.length m (g.again m.k) with ⟨y', r1, r2⟩ | ⟨r1, r2⟩
    · have hp : g.preT c m = g.ts m.k := r2
      rw [hp] at q ⊢
      exact h.c7 m.k hlt y q e7
    · have := hsane y q
      have h0 := this.e0 (by rw [(r2 y q).1]; simp) (by rw [(r2 y q).1]; simp) (by rw [(r2 y q).1]; simp)
      omega
  have hup2 : (g.preT c m).held = some ((g.preT c m).fr.sl, (g.preT c m).fr.gn, 2) → ∃ s : Nat, (g.preT c m).fr.sl = s ∧ s < g.z.hs.length ∧ nowAt g.z.hs (g.preT c m).fr.sl = hAt g.z.hs s ∧ (hAt g.z.hs s).gn = (g.preT c m).fr.gn ∧ (hAt g.z.hs s).sa = 2 ∧ (hAt g.z.hs s).th = m.k + 1 := by
    intro q
    rw [hheld] at q
    obtain ⟨s, a1, a2, a3, a4, a5⟩ := ho.up m.k hlt _ _ _ q
    exact ⟨s, a1, a2, by rw [a1, nowAt_h a2], a3, a4, a5⟩
  have hdoomer : ∀ e, (nowAt g.z.hs (g.preT c m).fr.sl).dm = true → (g.preT c m).held = some ((g.preT c m).fr.sl, (g.preT c m).fr.gn, 2) → e = (if (7 : Int) = 7 then (g.preT c m).doomer (g.preZ c m) else 0) → C1.fl (m.k + 1) ≠ 0 ∧ e = C1.by_ (m.k + 1) := by
    intro e hd hh he
    obtain ⟨s, s1, s2, s3, s4, s5, s6⟩ := hup2 hh
    rw [s3] at hd
    have hh2 : (g.ts m.k).held = some ((s : Int), (g.preT c m).fr.gn, 2) := by rw [← hheld, hh, s1]
    obtain ⟨a1, a2⟩ := h.fl m.k hlt s _ hh2 hd
    obtain ⟨b1, b2⟩ := hflC m.k hlt s _ hh2 hd
    rw [b1, b2]
    refine ⟨a1, ?_⟩
    rw [he, if_pos rfl, a2]
    unfold Tt.doomer
    rw [hph, s3]
  have hkk : ((m.k : Int) + 1).toNat = m.k + 1 := by omega
  -- what comes of the counts
  have hC2 : evsOk c C1 E2 ∧ (∀ j, j ≠ m.k → (E2.foldl evC C1).fl (j + 1) = C1.fl (j + 1)) ∧ (E2.foldl evC C1).by_ = C1.by_ ∧ (∀ j, j ≠ m.k → (E2.foldl evC C1).nu (j + 1) = C1.nu (j + 1)) ∧
      ((E2.foldl evC C1).fl (m.k + 1) = C1.fl (m.k + 1) ∨ ∃ b, (g.preT c m).dg = .beg b ∧ b.st = 2) ∧
      ((E2.foldl evC C1).nu (m.k + 1) ≠ 0 → (E2.foldl evC C1).nu (m.k + 1) = C1.nu (m.k + 1) ∧ ∀ y, (g.preT c m).dg = .com y → y.st ≠ .give) := by
    have hgv : ∀ y, (g.preT c m).dg = .com y → y.st = .give → E2 ≠ [] := by
      intro y q hgi e
      have := give_ev (c := c) (z := g.preZ c m) q hgi ((hsane y q).wn (by rw [hgi]; simp) (by rw [hgi]; simp))
      rw [f1, e] at this
      simp at this
    match hE : E2, f2, f3, hgv with
    | [], _, _, hgv => exact ⟨trivial, fun _ _ => rfl, rfl, fun _ _ => rfl, .inl rfl, fun _ => ⟨rfl, fun y q e => hgv y q e rfl⟩⟩
    | [e], _, f3, hgv =>
      obtain ⟨th1, hw⟩ := f3 e (by simp)
      have hth' : e.th.toNat = m.k + 1 := by rw [th1, hth]; exact hkk
      have t1 : 1 ≤ e.th := by rw [th1, hth]; omega
      have t4 : e.th ≤ 4 := by rw [th1, hth]; omega
      simp only [List.foldl_cons, List.foldl_nil, evsOk]
      rcases hw with ⟨k1, b, hb, hb2⟩ | ⟨k1, r, hr⟩ | ⟨k1, b, hb⟩ | ⟨k1, hw⟩ | ⟨k1, kb, hw⟩
      · have hc : evC C1 e = { C1 with fl := upd C1.fl (m.k + 1) 0 } := by unfold evC; rw [if_pos k1, hth']
        rw [hc]
        exact ⟨⟨⟨t1, t4, fun q => by omega⟩, trivial⟩, fun j hj => upd_ne _ (by omega) _, rfl, fun _ _ => rfl, .inr ⟨b, hb, hb2⟩, fun _ => ⟨rfl, fun y q => by rw [hb] at q; cases q⟩⟩
      · have hc : evC C1 e = C1 := by unfold evC; rw [if_neg (by omega), if_neg (by omega)]
        rw [hc]
        exact ⟨⟨⟨t1, t4, fun q => by omega⟩, trivial⟩, fun j hj => rfl, rfl, fun _ _ => rfl, .inl rfl, fun _ => ⟨rfl, fun y q => by rw [hr] at q; cases q⟩⟩
      · have hc : evC C1 e = C1 := by unfold evC; rw [if_neg (by omega), if_neg (by omega)]
        rw [hc]
        exact ⟨⟨⟨t1, t4, fun q => by omega⟩, trivial⟩, fun j hj => rfl, rfl, fun _ _ => rfl, .inl rfl, fun _ => ⟨rfl, fun y q => by rw [hb] at q; cases q⟩⟩
      · by_cases hga : C1.nu (m.k + 1) = e.ga
        · have hc : evC C1 e = { C1 with nu := upd C1.nu (m.k + 1) 0 } := by unfold evC; rw [if_neg (by omega), if_pos k1, hth', if_pos hga]
          rw [hc]
          refine ⟨⟨⟨t1, t4, fun q => by omega⟩, trivial⟩, fun j hj => rfl, rfl, fun j hj => upd_ne _ (by omega) _, .inl rfl, fun q => ?_⟩
          exact absurd (upd_same C1.nu (m.k + 1) 0) q
        · have hc : evC C1 e = C1 := by unfold evC; rw [if_neg (by omega), if_pos k1, hth', if_neg hga]
          rw [hc]
          refine ⟨⟨⟨t1, t4, fun q => by omega⟩, trivial⟩, fun j hj => rfl, rfl, fun j hj => rfl, .inl rfl, fun q => ⟨rfl, fun y qy hgi => ?_⟩⟩
          rcases hw with hw | ⟨y', w1, w2, w3, w4⟩
          · rw [hw] at qy; cases qy
          · rw [qy] at w1
            cases w1
            have hCC := hidle (fun y2 d2 q2 => by rw [qy] at q2; cases q2; rw [hgi]; simp)
            rw [hCC] at q hga
            obtain ⟨y3, z1, z2, z3, z4, z5, z6, z7⟩ := hnuk q
            rw [qy] at z1
            cases z1
            apply hga
            rw [w4, (won_give w2 w3).2, z7, z6]
      · have hc : evC C1 e = C1 := by unfold evC; rw [if_neg (by omega), if_neg (by omega)]
        rw [hc]
        have hCC : C1 = C := by
          apply hidle
          intro y d q hst
          rcases hw with ⟨p, v, w⟩ | ⟨y', w1, w2, w3, w4⟩
          · rw [w] at q; cases q
          · rw [q] at w1
            cases w1
            have := next_st_live (c := c) (z := g.preZ c m) (df := (g.preT c m).df) (y := y) (by rw [hst]; simp) (by rw [hst]; simp)
            rw [w2] at this
            cases this
        have hnu0 : C1.nu (m.k + 1) = 0 := by
          rw [hCC]
          by_cases q : C.nu (m.k + 1) = 0
          · exact q
          · exfalso
            obtain ⟨y, z1, z2, -⟩ := hnuk q
            rcases hw with ⟨p, v, w⟩ | ⟨y', w1, w2, w3, w4⟩
            · rw [w] at z1; cases z1
            · rw [z1] at w1
              cases w1
              have := next_st_live (c := c) (z := g.preZ c m) (df := (g.preT c m).df) (y := y) (by intro q; rw [q] at z2; cases z2) (by intro q; rw [q] at z2; cases z2)
              rw [w2] at this
              cases this
        refine ⟨⟨⟨t1, t4, fun _ => ?_⟩, trivial⟩, fun j hj => rfl, rfl, fun j hj => rfl, .inl rfl, fun q => absurd hnu0 q⟩
        rw [hth']
        refine ⟨hnu0, ?_⟩
        rcases hw with ⟨p, v, w⟩ | ⟨y', w1, w2, w3, w4⟩
        · have hhd : (g.preT c m).held = some ((g.preT c m).fr.sl, (g.preT c m).fr.gn, 2) := by unfold Tt.held; rw [w]
          rcases callT_abo2 (g.ts m.k) c g.z.hs.length m (g.again m.k) p e.er v w with r | ⟨r1, r2⟩
          · refine .inr (.inr (.inr ⟨r, ?_⟩))
            rw [kb, if_neg (by omega)]
          · rcases h.a7 m.k hlt p e.er v r1 with r | ⟨r3, r4⟩
            · refine .inr (.inr (.inr ⟨r, ?_⟩))
              rw [kb, if_neg (by omega)]
            · have hp : g.preT c m = g.ts m.k := r2
              obtain ⟨a1, a2⟩ := hdoomer e.by_ (by rw [hp]; exact r4) hhd (by rw [kb, if_pos r3, if_pos rfl])
              exact .inl ⟨r3, a1, a2⟩
        · have hhd := held_com w1
          have hfree : y'.st = .free := by
            by_cases q : y'.st = .free
            · exact q
            · have := next_st_live (c := c) (z := g.preZ c m) (df := (g.preT c m).df) q (hmine.ov y' w1)
              rw [w2] at this
              cases this
          have hne7 : (y'.next c (g.preZ c m) (g.preT c m).df).e = y'.e := by unfold Cm.next; rw [hfree]
          rw [hne7] at w3
          have hs := hsane y' w1
          rcases hs.ee with q | q | q | q
          · omega
          · obtain ⟨a1, a2⟩ := hdoomer e.by_ (hown7 y' w1 q) hhd (by rw [kb, if_pos (by omega), if_pos rfl])
            exact .inl ⟨by omega, a1, a2⟩
          · exact .inr (.inr (.inl ⟨by omega, hs.e8 q, by rw [kb, if_neg (by omega)]⟩))
          · exact .inr (.inl ⟨by omega, hs.e9 q, by rw [kb, if_neg (by omega)]⟩)
    | a :: b :: l, f2, _, _ => simp at f2
  obtain ⟨c1, c2, c3, c4, c5, c6⟩ := hC2
  refine ⟨evsOk_append i1 (by rw [i2]; exact c1), ?_⟩
  refine ⟨fun j hj y q => ?_, fun s hs hd => ?_, fun j hj p e v q => ?_, fun j hj y q e7 => ?_, fun j hj s n hh hd => ?_, fun j hj hn => ?_⟩
  · by_cases e : j = m.k
    · subst e
      rw [hat] at q
      by_cases hy : ∃ y0, (g.preT c m).dg = .com y0
      · obtain ⟨y0, hy0⟩ := hy
        obtain ⟨-, e2⟩ := next_com (c := c) (z := g.preZ c m) hy0
        rw [q] at e2
        rcases e2 with ⟨-, e3⟩ | ⟨-, e3⟩
        · cases e3
        · simp only [Dg.com.injEq] at e3
          rw [e3]
          have t1 := hfit.th1
          have t8 := hfit.th8
          have hgt : gTh y0.th = true := by rw [hmine.th y0 hy0]; simp [gTh]; omega
          have hh : y0.st.holds = true ↔ (g.preZ c m).x.o = y0.th := by
            rw [hmine.th y0 hy0, hth, px]
            have := hg.own m.k hlt
            rw [← hhold, hy0] at this
            exact this
          have := Cm.sane.next (z := g.preZ c m) (df := (g.preT c m).df) (by rw [px]; exact hsane y0 hy0) (hfit.cm y0 hy0) hgt (hmine.ov y0 hy0) hh
          have hx : (g.goes c m).z.x = ((g.preZ c m).commits y0).x := by
            show ((g.preZ c m).steps c (g.preT c m)).x = _
            rw [(steps_bare _ _ _).2.1]
            unfold SSt.bare
            rw [hy0]
          rw [hx]
          exact this
      · obtain ⟨-, e2⟩ := next_plain (c := c) (z := g.preZ c m) (fun y e => hy ⟨y, e⟩)
        exact absurd q (e2 y)
    · rw [hne j e] at q
      refine (h.sane j hj y q).gate (fun hh => ?_)
      rw [hsamex j hj e (by rw [q]; exact hh)]
  · have := step_dl (x := g.preT c m) (c := c) (z := g.preZ c m) (s := s) (by rw [hph]; exact h.dl s (by omega)) hd
    exact this
  · by_cases e' : j = m.k
    · subst e'
      rw [hat] at q ⊢
      cases hd : (g.preT c m).dg with
      | rd r =>
        have hn : (g.preT c m).next c (g.preZ c m) = (g.preT c m).readOn (r.next (g.preZ c m)) := by unfold Tt.next; rw [hd]
        rw [hn] at q ⊢
        have hhs : (g.goes c m).z.hs = g.z.hs := by
          show ((g.preZ c m).steps c (g.preT c m)).hs = _
          rw [(steps_bare _ _ _).2.2.1]
          unfold SSt.bare
          rw [hd]
          simp only
          rw [(reads_rest _ r).2.2.2, hph]
        have hr4 := hrd r hd
        unfold Tt.readOn at q ⊢
        split at q
        · cases q
        · rename_i h4
          rw [if_neg h4]
          split at q
          · cases q
          · rename_i he
            rw [if_neg he]
            simp only [Dg.abo.injEq] at q
            right
            have h3 : r.st = 3 := by
              have h4' : (r.next (g.preZ c m)).st = 4 := by simpa using h4
              unfold Rd.next at h4'
              split at h4'
              · unfold Rd.pub Rd.on at h4'
                simp only at h4'
                split at h4' <;> omega
              · split at h4'
                · simp at h4'
                · split at h4'
                  · split at h4'
                    · split at h4' <;> simp at h4'
                    · omega
                  · split at h4'
                    · assumption
                    · omega
            have hnx : r.next (g.preZ c m) = { r with st := 4, e := if r.fair (nowAt (g.preZ c m).hs r.sl) then 0 else 7 } := by
              unfold Rd.next
              rw [if_neg (by omega), if_neg (by omega), if_neg (by omega), if_pos h3]
            rw [hnx] at he q
            simp only at he q
            have hf : r.fair (nowAt (g.preZ c m).hs r.sl) = false := by
              cases hq : r.fair (nowAt (g.preZ c m).hs r.sl) with
              | false => rfl
              | true => rw [hq] at he; simp at he
            rw [hf] at q
            refine ⟨by have := q.2.1; simpa using this.symm, ?_⟩
            obtain ⟨s, s1, s2, s3, s4, s5, s6⟩ := hup2 (by unfold Tt.held; rw [hd])
            obtain ⟨o1, o2⟩ := hco.rd r hd
            show (nowAt (g.goes c m).z.hs (g.preT c m).fr.sl).dm = true
            rw [hhs, s3]
            rw [hph, o1, s3] at hf
            unfold Rd.fair at hf
            rw [s5, s4, o2] at hf
            simpa using hf
      | rest => unfold Tt.next at q; rw [hd] at q; simp only at q; rw [hd] at q; cases q
      | act => unfold Tt.next at q; rw [hd] at q; simp only at q; rw [hd] at q; cases q
      | leav => unfold Tt.next at q; rw [hd] at q; cases q
      | abo p' q' v' => unfold Tt.next at q; rw [hd] at q; cases q
      | com y =>
        unfold Tt.next at q
        rw [hd] at q
        simp only [Tt.comOn] at q
        split at q <;> cases q
      | beg b =>
        unfold Tt.next at q
        rw [hd] at q
        simp only [Tt.begun] at q
        split at q
        · cases q
        · split at q <;> cases q
    · rw [hne j e'] at q ⊢
      rcases h.a7 j hj p e v q with r | ⟨r1, r2⟩
      · exact .inl r
      · refine .inr ⟨r1, ?_⟩
        have hh : (g.ts j).held = some ((g.ts j).fr.sl, (g.ts j).fr.gn, 2) := by unfold Tt.held; rw [q]
        obtain ⟨s, a1, a2, a3, a4, a5⟩ := ho.up j hj _ _ _ hh
        rw [a1, nowAt_h a2] at r2
        rw [a1, nowAt_h (by omega), hkeep j hj e' s _ (by rw [hh, a1]) r2]
        exact r2
  · by_cases e' : j = m.k
    · subst e'
      rw [hat] at q ⊢
      by_cases hy : ∃ y0, (g.preT c m).dg = .com y0
      · obtain ⟨y0, hy0⟩ := hy
        have hfr : ((g.preT c m).next c (g.preZ c m)).fr = (g.preT c m).fr := by
          unfold Tt.next
          rw [hy0]
          simp only [Tt.comOn]
          split <;> rfl
        obtain ⟨-, e2⟩ := next_com (c := c) (z := g.preZ c m) hy0
        rw [q] at e2
        rcases e2 with ⟨-, e3⟩ | ⟨hnd, e3⟩
        · cases e3
        · simp only [Dg.com.injEq] at e3
          rw [e3] at e7
          obtain ⟨s, s1, s2, s3, s4, s5, s6⟩ := hup2 (held_com hy0)
          have hhs : y0.st ≠ .free → (∀ d, y0.st ≠ .doom d) → (g.goes c m).z.hs = g.z.hs := by
            intro n1 n2
            show ((g.preZ c m).steps c (g.preT c m)).hs = _
            rw [(steps_bare _ _ _).2.2.1]
            unfold SSt.bare
            rw [hy0]
            simp only
            rw [commits_hs_same n2 n1, hph]
          rw [hfr]
          rcases next_e7 e7 with r | ⟨r1, r2⟩
          · have hd7 := hown7 y0 hy0 r
            have hsa := hsane y0 hy0
            have n1 : y0.st ≠ .free := by
              intro qf
              have : (y0.next c (g.preZ c m) (g.preT c m).df).done = true := by unfold Cm.next; rw [qf]; rfl
              rw [hnd] at this
              cases this
            have n2 : ∀ d, y0.st ≠ .doom d := by
              intro d qd
              have := hsa.e0 (by rw [qd]; simp) (by rw [qd]; simp) (by rw [qd]; simp)
              omega
            rw [hhs n1 n2]
            exact hd7
          · rw [hhs (by rw [r1]; simp) (fun d => by rw [r1]; simp), s3]
            obtain ⟨o1, o2, -⟩ := hco.cm y0 hy0
            rw [hph, o1, s3] at r2
            unfold Hd.mine at r2
            rw [s5, s4, o2] at r2
            simpa using r2
      · obtain ⟨-, e2⟩ := next_plain (c := c) (z := g.preZ c m) (fun y e => hy ⟨y, e⟩)
        exact absurd q (e2 y)
    · rw [hne j e'] at q ⊢
      have r2 := h.c7 j hj y q e7
      have hh := held_com q
      obtain ⟨s, a1, a2, a3, a4, a5⟩ := ho.up j hj _ _ _ hh
      rw [a1, nowAt_h a2] at r2
      rw [a1, nowAt_h (by omega), hkeep j hj e' s _ (by rw [hh, a1]) r2]
      exact r2
  · by_cases e' : j = m.k
    · subst e'
      rcases hstep with ⟨hs0, he⟩ | ⟨k', hk', h0, n', h1, h2, q0, q1⟩ | ⟨k', hk', n', q0, q1, h1, h2⟩ | ⟨k', hk', n', a', q0, q1, h1, h2⟩
      · rw [he] at hh
        have hh2 : (g.ts m.k).held = some ((s : Int), n, 2) := by rw [← hheld]; exact hh
        have hnb : ∀ b, (g.preT c m).dg ≠ .beg b := by
          intro b q
          unfold Tt.held at hh
          rw [q] at hh
          simp only at hh
          split at hh
          · have := (fst_eq hh).2.2
            omega
          · cases hh
        by_cases hd0 : (hAt g.z.hs s).dm = true
        · have hsame : hAt (g.goes c m).z.hs s = hAt g.z.hs s := by
            have hx : (g.goes c m).z.hs = ((g.preZ c m).bare (g.preT c m)).hs := (steps_bare _ _ _).2.2.1
            rw [hx]
            have hrest : ((g.preT c m).next c (g.preZ c m)).dg ≠ .rest := by
              intro q
              rw [← hat] at q
              have he2 := he
              rw [hh] at he2
              unfold Tt.held at he2
              rw [q] at he2
              cases he2
            unfold SSt.bare
            cases hdg : (g.preT c m).dg with
            | rest => simp only; rw [hph]
            | act => simp only; rw [hph]
            | beg b => exact absurd hdg (hnb b)
            | rd r => simp only; rw [(reads_rest _ r).2.2.2, hph]
            | leav => exact absurd (by unfold Tt.next; rw [hdg]) hrest
            | abo p e v => exact absurd (by unfold Tt.next; rw [hdg]) hrest
            | com y =>
              simp only
              by_cases hf : y.st = .free
              · exfalso
                obtain ⟨-, e2⟩ := next_com (c := c) (z := g.preZ c m) hdg
                rcases e2 with ⟨-, e3⟩ | ⟨e2, -⟩
                · exact hrest e3
                · have : (y.next c (g.preZ c m) (g.preT c m).df).done = true := by unfold Cm.next; rw [hf]; rfl
                  rw [e2] at this
                  cases this
              · by_cases hdo : ∃ d, y.st = .doom d
                · obtain ⟨d, hdo⟩ := hdo
                  have hc : (g.preZ c m).commits y = (g.preZ c m).dooms d := by unfold SSt.commits; rw [hdo]
                  rw [hc]
                  unfold SSt.dooms
                  split
                  · rw [hph]
                  · rename_i t l hl
                    show hAt ((doomOp t.ge d.wy).H (g.preZ c m).hs t.so) s = _
                    rw [hAt_op, if_neg, hph]
                    intro qq
                    have w1 := (hsane y hdg).od d hdo t (by rw [hl]; simp)
                    have w2 := (hco.cm y hdg).1
                    have w3 := held_com hdg
                    rw [hh] at w3
                    have w4 := (fst_eq w3).1
                    apply w1
                    rw [qq.2.1, w2, w4]
                · rw [commits_hs_same (fun d q => hdo ⟨d, q⟩) hf, hph]
          obtain ⟨b1, b2⟩ := hflC m.k hlt s n hh2 hd0
          have hfl := h.fl m.k hlt s n hh2 hd0
          rw [c3, hsame, b2]
          rcases c5 with c5 | ⟨b, c5, -⟩
          · rw [c5, b1]
            exact hfl
          · exact absurd c5 (hnb b)
        · exfalso
          have hd1 : (hAt g.z.hs s).dm = false := by simpa using hd0
          obtain ⟨-, -, -, -, -, -, ⟨i, r1, r2, r3, r4⟩, -⟩ := hnews s (by simp [newD, hd, hd1])
          exact r2 (ho.uniq r1 hlt r4 hh2)
      · rw [q1] at hh
        have := (fst_eq hh).2.2
        omega
      · exfalso
        rw [q1] at hh
        have e1 := (fst_eq hh).1
        have es : k' = s := by omega
        subst es
        rw [hheld] at q0
        obtain ⟨p, p1, p2, p3, p4, p5⟩ := ho.up m.k hlt _ _ _ q0
        have hps : p = k' := by omega
        subst hps
        rw [h1.2.2.2] at hd
        have := h.dl p p2 hd
        omega
      · rw [q1] at hh
        cases hh
    · rw [hne j e'] at hh
      rw [c2 j e', c3]
      by_cases hd0 : (hAt g.z.hs s).dm = true
      · obtain ⟨b1, b2⟩ := hflC j hj s n hh hd0
        rw [b1, b2, hkeep j hj e' s n hh hd0]
        exact h.fl j hj s n hh hd0
      · have hnw : newD g.z.hs (g.goes c m).z.hs s = true := by
          have : (hAt g.z.hs s).dm = false := by simpa using hd0
          simp [newD, hd, this]
        obtain ⟨q1, q2, q3, q4, q5, q6, -, -⟩ := hnews s hnw
        obtain ⟨p, p1, p2, p3, p4, p5⟩ := ho.up j hj _ _ _ hh
        have hps : p = s := by omega
        subst hps
        rcases hway with ⟨-, a⟩ | ⟨s0, -, a1, a2⟩
        · rw [a p] at hnw; cases hnw
        · have es : p = s0 := by
            by_cases e5 : p = s0
            · exact e5
            · rw [a1 p e5] at hnw; cases hnw
          subst es
          have e3 : ((j : Int) + 1).toNat = j + 1 := by omega
          rw [a2, q2, q6, p5]
          simp only [e3, upd_same]
          exact ⟨hodd (by omega), by first | rfl | trivial⟩
  · by_cases e' : j = m.k
    · subst e'
      obtain ⟨d1, d2⟩ := c6 hn
      rw [d1] at hn ⊢
      have hfin : ∀ y, (g.preT c m).dg = .com y → ((∃ d, y.st = .doom d) ∨ ∃ k, y.st = .write k) → C1.nu (m.k + 1) = g.z.x.n → ∃ y, ((g.goes c m).ts m.k).dg = .com y ∧ y.st.holds = true ∧ y.st ≠ .own ∧ y.st ≠ .look ∧ y.st ≠ .up ∧ C1.nu (m.k + 1) = (g.goes c m).z.x.n := by
        intro y q hw hN
        obtain ⟨n1, n2, n3, n4, n5⟩ := next_charged (c := c) (z := g.preZ c m) (df := (g.preT c m).df) hw
        obtain ⟨-, e2⟩ := next_com (c := c) (z := g.preZ c m) q
        rw [← hat] at e2
        have hx : (g.goes c m).z.x = g.z.x := by
          show ((g.preZ c m).steps c (g.preT c m)).x = _
          rw [(steps_bare _ _ _).2.1]
          unfold SSt.bare
          rw [q]
          simp only
          rw [n5, px]
        rcases e2 with ⟨e2, -⟩ | ⟨-, e3⟩
        · have := done_holds e2
          rw [n1] at this
          cases this
        · exact ⟨_, e3, n1, n2, n3, n4, by rw [hx]; exact hN⟩
      rcases hway with ⟨a, -⟩ | ⟨s0, a0, -, a⟩
      · have hn' : C.nu (m.k + 1) ≠ 0 := by rw [← a]; exact hn
        obtain ⟨y, z1, z2, z3, z4, z5, z6, z7⟩ := hnuk hn'
        refine hfin y z1 ?_ (by rw [a]; exact z6)
        have := d2 y z1
        cases hst : y.st with
        | doom d => exact .inl ⟨d, rfl⟩
        | write k => exact .inr ⟨k, rfl⟩
        | give => exact absurd hst this
        | own => exact absurd hst z3
        | look => exact absurd hst z4
        | up => exact absurd hst z5
        | take => rw [hst] at z2; cases z2
        | free => rw [hst] at z2; cases z2
        | over => rw [hst] at z2; cases z2
      · obtain ⟨-, -, -, -, -, -, -, y, d, t, l, q1, q2, q3, q4, q5⟩ := hnews s0 a0
        exact hfin y q1 (.inl ⟨d, q3⟩) (by rw [a]; exact upd_same _ _ _)
    · rw [c4 j e', hnuC j hj e'] at hn ⊢
      obtain ⟨y, a1, a2, a3, a4, a5, a6⟩ := h.nu j hj hn
      refine ⟨y, by rw [hne j e']; exact a1, a2, a3, a4, a5, ?_⟩
      rw [a6, hsamex j hj e' (by rw [a1]; exact a2)]
theorem Chg_new (c : Cfg) (l : List Int) : Chg (Gp.new c l) c ⟨fun _ => 0, fun _ => 0, fun _ => 0⟩ := by
  refine ⟨fun j _ y e => by simp [Gp.new, Tt.new] at e, fun s _ hd => ?_, fun j _ p e v q => by simp [Gp.new, Tt.new] at q, fun j _ y e => by simp [Gp.new, Tt.new] at e, fun j _ s n hh => by simp [Gp.new, Tt.new, Tt.held] at hh, fun j _ h => absurd rfl h⟩
  have q : (hAt (List.replicate _ Hd.zero) s).dm = true := hd
  rw [hAt_rep] at q
  cases q
end
end Go.Proofs.YtnchfomoaonbkaaGreat
