/- Instructions that ask the transaction, tell and halt. Begin and tell. -/
import Derived.Test.YthbcbjkgjgmegaaGreatPgD
import Derived.Test.YthbcbjkgjgmegaaGreatPgT
namespace Go.Proofs.YthbcbjkgjgmegaaGreat
open Go.RowKit
set_option linter.unusedVariables false
set_option linter.unusedSimpArgs false
attribute [local go_sem ↓] Go.wp_at_zero Go.wp_at_succ
/-- An instruction is given up. -/
def boom (e : Int) : Ending := .panicked [{ v := .iface 27 (.int .i64 e), recovered := false }]
theorem pRefuse (e : Int) (w : World) : Calls Tryz.prog 112 #[.int .i64 e] w fun r w' => r = boom e ∧ w' = w := by
  go_enter Tryz.func112, Tryz.ntmps112
  go_wp2
  exact ⟨rfl, rfl, rfl⟩
section
variable {o w : World} {its R : List It} {A : Ad} {c : Cfg} {z : SSt} {v u : Value} {Q : PA} {x : Pg} {X : Nat}
set_option maxRecDepth 100000 in
theorem PH.must_in (h : PH o c A X R z x w) (hi : x.inside = true) : Calls Tryz.prog 195 #[.pointer (some ⟨X, 0, none⟩)] w fun r w' => r = .returned (.tuple #[]) ∧ PH o c A X R z x w' := by
  have hq := h.inside
  rw [hi] at hq
  clear h
  go_enter Tryz.func195, Tryz.ntmps195
  go_wp2_with fail
  refine hq.mono ?_
  rintro r w2 ⟨rfl, s2⟩
  have H3 := hid s2
  clear hq s2
  go_wp2
  go_end0
  exact ⟨rfl, H3.out⟩
set_option maxRecDepth 100000 in
theorem PH.must_out (h : PH o c A X R z x w) (hi : x.inside = false) : Calls Tryz.prog 195 #[.pointer (some ⟨X, 0, none⟩)] w fun r w' => r = boom 162 ∧ PH o c A X R z x w' := by
  have hq := h.inside
  rw [hi] at hq
  clear h
  go_enter Tryz.func195, Tryz.ntmps195
  go_wp2_with fail
  refine hq.mono ?_
  rintro r w2 ⟨rfl, s2⟩
  have H3 := hid s2
  clear hq s2
  have hq := pRefuse 162 w2
  go_wp2_with fail
  refine hq.mono ?_
  rintro r w3 ⟨rfl, rfl⟩
  clear hq
  unfold boom
  go_wp2
  exact ⟨rfl, rfl, H3.out⟩

set_option maxRecDepth 100000 in
theorem PH.load_out (h : PH o c A X R z x w) (hi : x.inside = false) (a : Int) : Calls Tryz.prog 157 #[.pointer (some ⟨X, 0, none⟩), .int .i64 a] w fun r w' => r = boom 162 ∧ PH o c A X R z x w' := by
  have hq := h.must_out hi
  clear h
  unfold boom at hq ⊢
  go_enter Tryz.func157, Tryz.ntmps157
  go_wp2_with fail
  refine hq.mono ?_
  rintro r w2 ⟨rfl, s2⟩
  have H3 := hid s2
  clear hq s2
  go_wp2
  exact ⟨rfl, rfl, H3.out⟩
set_option maxRecDepth 100000 in
theorem PH.store_out (h : PH o c A X R z x w) (hi : x.inside = false) (a : Int) : Calls Tryz.prog 158 #[.pointer (some ⟨X, 0, none⟩), .int .i64 a] w fun r w' => r = boom 162 ∧ PH o c A X R z x w' := by
  have hq := h.must_out hi
  clear h
  unfold boom at hq ⊢
  go_enter Tryz.func158, Tryz.ntmps158
  go_wp2_with fail
  refine hq.mono ?_
  rintro r w2 ⟨rfl, s2⟩
  have H3 := hid s2
  clear hq s2
  go_wp2
  exact ⟨rfl, rfl, H3.out⟩
set_option maxRecDepth 100000 in
theorem PH.commit_out (h : PH o c A X R z x w) (hi : x.inside = false) (a : Int) : Calls Tryz.prog 159 #[.pointer (some ⟨X, 0, none⟩), .int .i64 a] w fun r w' => r = boom 162 ∧ PH o c A X R z x w' := by
  have hq := h.must_out hi
  clear h
  unfold boom at hq ⊢
  go_enter Tryz.func159, Tryz.ntmps159
  go_wp2_with fail
  refine hq.mono ?_
  rintro r w2 ⟨rfl, s2⟩
  have H3 := hid s2
  clear hq s2
  go_wp2
  exact ⟨rfl, rfl, H3.out⟩
set_option maxRecDepth 100000 in
theorem PH.abort_out (h : PH o c A X R z x w) (hi : x.inside = false) (a : Int) : Calls Tryz.prog 160 #[.pointer (some ⟨X, 0, none⟩), .int .i64 a] w fun r w' => r = boom 162 ∧ PH o c A X R z x w' := by
  have hq := h.must_out hi
  clear h
  unfold boom at hq ⊢
  go_enter Tryz.func160, Tryz.ntmps160
  go_wp2_with fail
  refine hq.mono ?_
  rintro r w2 ⟨rfl, s2⟩
  have H3 := hid s2
  clear hq s2
  go_wp2
  exact ⟨rfl, rfl, H3.out⟩
set_option maxRecDepth 100000 in
theorem PH.begin_in (h : PH o c A X R z x w) (hi : x.inside = true) (a : Int) : Calls Tryz.prog 156 #[.pointer (some ⟨X, 0, none⟩), .int .i64 a] w fun r w' => r = boom 161 ∧ PH o c A X R z x w' := by
  have hq := h.inside
  rw [hi] at hq
  clear h
  unfold boom
  go_enter Tryz.func156, Tryz.ntmps156
  go_wp2_with fail
  refine hq.mono ?_
  rintro r w2 ⟨rfl, s2⟩
  have H3 := hid s2
  clear hq s2
  have hq := pRefuse 161 w2
  unfold boom at hq
  go_wp2_with fail
  refine hq.mono ?_
  rintro r w3 ⟨rfl, rfl⟩
  clear hq
  go_wp2
  exact ⟨rfl, rfl, H3.out⟩
set_option maxRecDepth 100000 in
theorem PH.halt_in (h : PH o c A X R z x w) (hi : x.inside = true) (a : Int) : Calls Tryz.prog 162 #[.pointer (some ⟨X, 0, none⟩), .int .i64 a] w fun r w' => r = boom 164 ∧ PH o c A X R z x w' := by
  have hq := h.inside
  rw [hi] at hq
  clear h
  unfold boom
  go_enter Tryz.func162, Tryz.ntmps162
  go_wp2_with fail
  refine hq.mono ?_
  rintro r w2 ⟨rfl, s2⟩
  have H3 := hid s2
  clear hq s2
  have hq := pRefuse 164 w2
  unfold boom at hq
  go_wp2_with fail
  refine hq.mono ?_
  rintro r w3 ⟨rfl, rfl⟩
  clear hq
  go_wp2
  exact ⟨rfl, rfl, H3.out⟩
set_option maxRecDepth 100000 in
theorem PH.halt_out (h : PH o c A X R z x w) (hi : x.inside = false) (hp : x.ph = 0) (a : Int) : Calls Tryz.prog 162 #[.pointer (some ⟨X, 0, none⟩), .int .i64 a] w fun r w' => r = .returned (.int .i64 1) ∧ PH o c A X R z (x.ends 0) w' := by
  have hq := h.inside
  rw [hi] at hq
  clear h
  go_enter Tryz.func162, Tryz.ntmps162
  go_wp2_with fail
  refine hq.mono ?_
  rintro r w2 ⟨rfl, s2⟩
  clear hq
  have hq := s2.ends hp 0
  clear s2
  go_wp2_with fail
  refine hq.mono ?_
  rintro r w3 ⟨rfl, s3⟩
  have H3 := hid s3
  clear hq s3
  go_wp2
  go_ret
  exact ⟨rfl, H3.out⟩
theorem txL_T {P : TA} {t : Tt} {w : World} (h : St o (txL c A Q.P x.tx ++ spI A c z v u :: (pgC A Q x ++ R)) w) : w.cell? ⟨Q.X, 24, none⟩ = some (.pointer (some ⟨Q.P.T, 0, none⟩)) := h.cell 7 rfl 24

theorem wf_cell {n : Int} {ce : Int} (hn : n ≤ 256) (h : inN n ce = true) : (Lit.int .i64 ce).wf = true := by
  have := inN_iff.1 h
  have e1 : IntKind.i64.min = -9223372036854775808 := by decide
  have e2 : IntKind.i64.max = 9223372036854775807 := by decide
  simp only [Lit.wf, e1, e2, Bool.and_eq_true, decide_eq_true_eq]
  omega
theorem wf_wrp (a : Int) : (Lit.int .i64 (wrp a)).wf = true := by
  have e1 : IntKind.i64.min = -9223372036854775808 := by decide
  have e2 : IntKind.i64.max = 9223372036854775807 := by decide
  simp only [Lit.wf, e1, e2, Bool.and_eq_true, decide_eq_true_eq, wrp, wrap64]
  omega
/-- The calls of the transaction, the program beside it. -/
theorem PH.txAbort (h : PH o c A X R z x w) (hp : x.ph = 2) {e0 : Int} (h0 : e0 ≠ 0) : ∃ T, w.cell? ⟨X, 24, none⟩ = some (.pointer (some ⟨T, 0, none⟩)) ∧ Calls Tryz.prog 107 #[.pointer (some ⟨T, 0, none⟩), .int .i64 e0] w fun r w' => r = .returned (.int .i64 0) ∧ PH o c A X R z { x with tx := x.tx.abort e0 } w' := by
  obtain ⟨Q, v, u, rfl, hJ, hn, h⟩ := h
  refine ⟨Q.P.T, h.cell 7 rfl 24, (tAbort_ok h hp h0).mono ?_⟩
  rintro r w' ⟨he, q⟩
  refine ⟨he, Q, v, u, rfl, fun y e => ?_, hn, q⟩
  have ha : x.tx.abort e0 = { x.tx with dg := .abo 5 e0 0 } := by
    unfold Tt.abort Tt.abortE
    rw [if_neg (show ¬ x.tx.dg.phase ≠ 2 from fun q => q hp), if_neg h0, if_pos rfl]
  rw [ha] at e
  cases e
theorem PH.txCommit (h : PH o c A X R z x w) (hp : x.ph = 2) {n k : Nat} (hx : x.tx.fit c n k) (hf : c.fits = true) (hz : z.hs.length = n) (hl : (n : Int) = c.sl) (h1 : 1 ≤ x.tx.sp) : ∃ T, w.cell? ⟨X, 24, none⟩ = some (.pointer (some ⟨T, 0, none⟩)) ∧ Calls Tryz.prog 198 #[.pointer (some ⟨T, 0, none⟩)] w fun r w' => r = .returned (.int .i64 0) ∧ PH o c A X R z { x with tx := x.tx.commit c z.hs.length } w' := by
  obtain ⟨Q, v, u, rfl, hJ, hn, h⟩ := h
  obtain ⟨a1, a2, a3, a4⟩ := Cfg.fits_cells hf
  refine ⟨Q.P.T, h.cell 7 rfl 24, ?_⟩
  by_cases hw : x.tx.wr = []
  · refine (tCommit_leave h hp hw z.hs.length).mono ?_
    rintro r w' ⟨he, q⟩
    refine ⟨he, Q, v, u, rfl, fun y e => ?_, hn, q⟩
    unfold Tt.commit at e
    rw [if_neg (show ¬ x.tx.dg.phase ≠ 2 from fun q => q hp), if_pos hw] at e
    cases e
  · refine (tCommit_ok h hp hw hx.wl (fun p hp' => wf_cell (by omega) (hx.wc p hp')) hf (by rw [hz]; exact hl) hx.s0 (hx.ck hl hw h1)).mono ?_
    rintro r w' ⟨he, P', hT, hJ', q⟩
    refine ⟨he, { Q with P := P' }, v, u, rfl, fun y e => hJ', hn, ?_⟩
    rw [pgV_P A Q x hT]
    exact q

set_option maxRecDepth 100000 in
theorem PH.commit_in (h : PH o c A X R z x w) (hi : x.inside = true) (hp : x.ph = 2) {n k : Nat} (hx : x.fit c n k) (ho : x.ins.op = 19) (ok : z.ok c k) (hk : k ≤ 900000000) (hf : c.fits = true) (hz : z.hs.length = n) (hl : (n : Int) = c.sl) (h8 : n ≤ 8) (hw : WsOk z.ws) (a : Int) : Calls Tryz.prog 159 #[.pointer (some ⟨X, 0, none⟩), .int .i64 a] w fun r w' => r = .returned (.int .i64 (Pg.began { x with tx := x.tx.commit c z.hs.length } c z).a) ∧ PH o c A X R (Pg.began { x with tx := x.tx.commit c z.hs.length } c z).z (Pg.began { x with tx := x.tx.commit c z.hs.length } c z).x w' := by
  have hq := h.must_in hi
  have hbg : Beg { x with tx := x.tx.commit c z.hs.length } c n k := by rw [hz]; exact commit_beg hx hp ho hl h8
  have h1 : 1 ≤ x.tx.sp := hx.tx.lv (by have : x.tx.dg.phase = 2 := hp; omega)
  obtain ⟨y, hy⟩ : ∃ y : Pg, y = { x with tx := x.tx.commit c z.hs.length } := ⟨_, rfl⟩
  rw [← hy] at hbg ⊢
  have HY := hid hy
  obtain ⟨out, hout⟩ : ∃ out, out = y.began c z := ⟨_, rfl⟩
  rw [← hout]
  have HO := hid hout
  clear h hy hout
  go_enter Tryz.func159, Tryz.ntmps159
  go_wp2_with fail
  refine hq.mono ?_
  rintro r w1 ⟨rfl, s1⟩
  clear hq
  obtain ⟨T, cT, hq⟩ := s1.txCommit hp hx.tx hf hz hl h1
  rw [← HY.out] at hq
  clear s1 HY
  go_wp2_with fail
  refine hq.mono ?_
  rintro r w2 ⟨rfl, s2⟩
  clear hq cT
  have hq := s2.begun hbg ok hk hz hf hw
  rw [← HO.out] at hq
  clear s2
  go_wp2_with fail
  refine hq.mono ?_
  rintro r w3 ⟨rfl, s3⟩
  have H3 := hid s3
  clear hq s3
  go_wp2
  go_ret
  exact ⟨rfl, H3.out⟩
set_option maxRecDepth 100000 in
theorem PH.abort_in (h : PH o c A X R z x w) (hi : x.inside = true) (hp : x.ph = 2) {n k : Nat} (hx : x.fit c n k) (ho : x.ins.op = 20) (ok : z.ok c k) (hk : k ≤ 900000000) (hf : c.fits = true) (hz : z.hs.length = n) (hw : WsOk z.ws) (a : Int) : Calls Tryz.prog 160 #[.pointer (some ⟨X, 0, none⟩), .int .i64 a] w fun r w' => r = .returned (.int .i64 (Pg.began { x with tx := x.tx.abort 165 } c z).a) ∧ PH o c A X R (Pg.began { x with tx := x.tx.abort 165 } c z).z (Pg.began { x with tx := x.tx.abort 165 } c z).x w' := by
  have hq := h.must_in hi
  have hbg : Beg { x with tx := x.tx.abort 165 } c n k := abort_beg hx hp (by decide) (fun _ => ⟨ins_lt (by omega), by rw [← ins_at (by omega)]; exact ho⟩)
  have h1 : 1 ≤ x.tx.sp := hx.tx.lv (by have : x.tx.dg.phase = 2 := hp; omega)
  obtain ⟨y, hy⟩ : ∃ y : Pg, y = { x with tx := x.tx.abort 165 } := ⟨_, rfl⟩
  rw [← hy] at hbg ⊢
  have HY := hid hy
  obtain ⟨out, hout⟩ : ∃ out, out = y.began c z := ⟨_, rfl⟩
  rw [← hout]
  have HO := hid hout
  clear h hy hout
  go_enter Tryz.func160, Tryz.ntmps160
  go_wp2_with fail
  refine hq.mono ?_
  rintro r w1 ⟨rfl, s1⟩
  clear hq
  obtain ⟨T, cT, hq⟩ := s1.txAbort hp (show (165 : Int) ≠ 0 by decide)
  rw [← HY.out] at hq
  clear s1 HY
  go_wp2_with fail
  refine hq.mono ?_
  rintro r w2 ⟨rfl, s2⟩
  clear hq cT
  have hq := s2.begun hbg ok hk hz hf hw
  rw [← HO.out] at hq
  clear s2
  go_wp2_with fail
  refine hq.mono ?_
  rintro r w3 ⟨rfl, s3⟩
  have H3 := hid s3
  clear hq s3
  go_wp2
  go_ret
  exact ⟨rfl, H3.out⟩
set_option maxRecDepth 100000 in
theorem pBegun_no {e0 : Int} (h0 : e0 ≠ 0) (X : Nat) (w : World) : Calls Tryz.prog 193 #[.pointer (some ⟨X, 0, none⟩), .int .i64 e0] w fun r w' => r = boom (if e0 = 2 then 163 else e0) ∧ w' = w := by
  by_cases h2 : e0 = 2
  · subst h2
    rw [if_pos rfl]
    have hq := pRefuse 163 w
    unfold boom at hq ⊢
    go_enter Tryz.func193, Tryz.ntmps193
    go_wp2_with fail
    refine hq.mono ?_
    rintro r w3 ⟨rfl, rfl⟩
    clear hq
    go_wp2
    exact ⟨rfl, rfl, rfl⟩
  · rw [if_neg h2]
    have m0 : (e0 == 0) = false := by simpa using h0
    have m1 : (e0 != 0) = true := by simpa using h0
    have m2 : (e0 == 2) = false := by simpa using h2
    have hq := pRefuse e0 w
    unfold boom at hq ⊢
    clear h0 h2
    go_enter Tryz.func193, Tryz.ntmps193
    go_wp2_with fail
    refine hq.mono ?_
    rintro r w3 ⟨rfl, rfl⟩
    clear hq
    go_wp2
    exact ⟨rfl, rfl, rfl⟩
/-- Read, whatever comes of it: what is answered, what it leaves. -/
theorem txRead (h : St o (txL c A Q.P x.tx ++ spI A c z v u :: (pgC A Q x ++ R)) w) (hp : x.ph = 2) {n k : Nat} (hx : x.tx.fit c n k) (hz : z.hs.length = n) (hl : (n : Int) = c.sl) (ok : z.ok c k) (hk : k ≤ 900000000) (hJ : ∀ y, x.tx.dg = .com y → Q.P.B.J = Q.P.J) (hn : x.hd = [] → Q.hv = .slice none 0 0) {ce : Int} (hce : (Lit.int .i64 ce).wf = true) :
    Calls Tryz.prog 196 #[.pointer (some ⟨Q.P.T, 0, none⟩), .int .i64 ce] w fun r w' => r = .returned (.int .i64 (x.tx.readE c ce)) ∧ PH o c A Q.X R (x.tx.readZ ce z) { x with tx := x.tx.read c ce } w' := by
  have hs : x.tx.sp ≠ 0 := by
    have := hx.lv (by have : x.tx.dg.phase = 2 := hp; omega)
    omega
  have hev : z.ev.length ≤ 2000000000 := by have := ok.el; omega
  have hsl : inN c.sl x.tx.fr.sl = true := by
    rw [inN_iff]
    have a1 := hx.s0
    have a2 := hx.sn
    omega
  have hnc : ∀ y, (x.tx.read c ce).dg ≠ .com y := by
    intro y
    have hd := phase_two hp
    unfold Tt.read
    split
    · rw [hd]; simp
    · split
      · rw [hd]; simp
      · split
        · simp
        · rw [hd]; simp
  cases hg : wrGet x.tx.wr ce with
  | some xv =>
    have e1 : x.tx.readE c ce = 0 := by unfold Tt.readE; rw [if_neg (show ¬ x.tx.dg.phase ≠ 2 from fun q => q hp), hg]; rfl
    rw [e1]
    refine (tRead_own h hp hs hev hg).mono ?_
    rintro r w' ⟨he, u', q⟩
    exact ⟨he, Q, v, u', rfl, fun y e => absurd e (hnc y), hn, q⟩
  | none =>
    by_cases hc : inN c.ce ce = true
    · have e1 : x.tx.readE c ce = 0 := by unfold Tt.readE; rw [if_neg (show ¬ x.tx.dg.phase ≠ 2 from fun q => q hp), hg]; simp [hc]
      rw [e1]
      refine (tRead_in h hp hce hg hx.sg hsl hc).mono ?_
      rintro r w' ⟨he, P', hT, q⟩
      refine ⟨he, { Q with P := P' }, v, u, rfl, fun y e => absurd e (hnc y), hn, ?_⟩
      rw [pgV_P A Q x hT]
      exact q
    · have hc : inN c.ce ce = false := by simpa using hc
      have e1 : x.tx.readE c ce = 2 := by unfold Tt.readE; rw [if_neg (show ¬ x.tx.dg.phase ≠ 2 from fun q => q hp), hg]; simp [hc]
      rw [e1]
      refine (tRead_out h hp hce hg hx.sg hsl hc).mono ?_
      rintro r w' ⟨he, q⟩
      exact ⟨he, Q, v, u, rfl, fun y e => absurd e (hnc y), hn, q⟩
theorem readE_two (hp : x.ph = 2) {ce : Int} (h : x.tx.readE c ce ≠ 0) : x.tx.readE c ce = 2 ∧ x.tx.read c ce = x.tx ∧ x.tx.readZ ce z = z := by
  have hp' : ¬ x.tx.dg.phase ≠ 2 := fun q => q hp
  unfold Tt.readE at h ⊢
  unfold Tt.read Tt.readZ
  rw [if_neg hp'] at h ⊢
  rw [if_neg hp', if_neg hp']
  cases hg : wrGet x.tx.wr ce with
  | some v => rw [hg] at h; simp at h
  | none =>
    rw [hg] at h
    by_cases hc : inN c.ce ce = true
    · simp [hc] at h
    · simp [hc]
theorem writeE_no (hp : x.ph = 2) {ce xv : Int} (h : x.tx.writeE c ce ≠ 0) : x.tx.write c ce xv = x.tx ∧ x.tx.writeZ c ce xv z = z := by
  unfold Tt.write Tt.writeZ
  rw [if_neg h, if_neg h]
  exact ⟨rfl, rfl⟩
theorem txWrite (h : St o (txL c A Q.P x.tx ++ spI A c z v u :: (pgC A Q x ++ R)) w) (hp : x.ph = 2) {n k : Nat} (hx : x.tx.fit c n k) (ok : z.ok c k) (hk : k ≤ 900000000) (hJ : ∀ y, x.tx.dg = .com y → Q.P.B.J = Q.P.J) (hn : x.hd = [] → Q.hv = .slice none 0 0) {ce : Int} (hce : (Lit.int .i64 ce).wf = true) (xv : Int) :
    Calls Tryz.prog 197 #[.pointer (some ⟨Q.P.T, 0, none⟩), .int .i64 ce, .int .i64 xv] w fun r w' => r = .returned (.int .i64 (x.tx.writeE c ce)) ∧ PH o c A Q.X R (x.tx.writeZ c ce xv z) { x with tx := x.tx.write c ce xv } w' := by
  have hs : x.tx.sp ≠ 0 := by
    have := hx.lv (by have : x.tx.dg.phase = 2 := hp; omega)
    omega
  have hev : z.ev.length ≤ 2000000000 := by have := ok.el; omega
  have hp' : ¬ x.tx.dg.phase ≠ 2 := fun q => q hp
  have hd := phase_two hp
  by_cases hc : inN c.ce ce = true
  · cases hg : wrGet x.tx.wr ce with
    | some v0 =>
      have e1 : x.tx.writeE c ce = 0 := by unfold Tt.writeE wrFull; rw [if_neg hp', hg]; simp [hc]
      have e2 : x.tx.write c ce xv = { x.tx with lo := 3, le := 0, lx := xv, wr := wrPut x.tx.wr ce xv } := by unfold Tt.write; rw [if_pos e1]
      have e3 : x.tx.writeZ c ce xv z = z.noted (x.tx.evn 3 ce xv false 0 0 0) := by unfold Tt.writeZ; rw [if_pos e1]
      rw [e1, e2, e3]
      refine (tWrite_old h hp hc hce hs hev hg hx.wd xv).mono ?_
      rintro r w' ⟨he, P', u', hT, q⟩
      refine ⟨he, { Q with P := P' }, v, u', rfl, fun y e => absurd (hd.symm.trans e) (by simp), hn, ?_⟩
      rw [pgV_P A Q x hT]
      exact q
    | none =>
      by_cases h16 : x.tx.wr.length = 16
      · have e1 : x.tx.writeE c ce = 10 := by unfold Tt.writeE wrFull; rw [if_neg hp', hg]; simp [hc, h16]
        obtain ⟨e2, e3⟩ := writeE_no (x := x) (z := z) (c := c) hp (ce := ce) (xv := xv) (by omega)
        rw [e1, e2, e3]
        refine (tWrite_full h hp hc hce hg h16 xv).mono ?_
        rintro r w' ⟨he, q⟩
        exact ⟨he, Q, v, u, rfl, hJ, hn, q⟩
      · have e1 : x.tx.writeE c ce = 0 := by unfold Tt.writeE wrFull; rw [if_neg hp', hg]; simp [hc, h16]
        have e2 : x.tx.write c ce xv = { x.tx with lo := 3, le := 0, lx := xv, wr := wrPut x.tx.wr ce xv } := by unfold Tt.write; rw [if_pos e1]
        have e3 : x.tx.writeZ c ce xv z = z.noted (x.tx.evn 3 ce xv false 0 0 0) := by unfold Tt.writeZ; rw [if_pos e1]
        rw [e1, e2, e3]
        have hwl := hx.wl
        refine (tWrite_new h hp hc hce hs hev hg (by omega) xv).mono ?_
        rintro r w' ⟨he, P', u', hT, q⟩
        refine ⟨he, { Q with P := P' }, v, u', rfl, fun y e => absurd (hd.symm.trans e) (by simp), hn, ?_⟩
        rw [pgV_P A Q x hT]
        exact q
  · have hc : inN c.ce ce = false := by simpa using hc
    have e1 : x.tx.writeE c ce = 2 := by unfold Tt.writeE; rw [if_neg hp']; simp [hc]
    obtain ⟨e2, e3⟩ := writeE_no (x := x) (z := z) (c := c) hp (ce := ce) (xv := xv) (by omega)
    rw [e1, e2, e3]
    refine (tWrite_place h hp hc xv).mono ?_
    rintro r w' ⟨he, q⟩
    exact ⟨he, Q, v, u, rfl, hJ, hn, q⟩
set_option maxRecDepth 100000 in
set_option maxHeartbeats 1000000 in
theorem PH.load_ok (h : PH o c A X R z x w) (hi : x.inside = true) (hp : x.ph = 2) {n k : Nat} (hx : x.fit c n k) (ho : x.ins.op = 17) (hl1 : 1 ≤ x.fm.st.length) (ok : z.ok c k) (hk : k ≤ 800000000) (hf : c.fits = true) (hz : z.hs.length = n) (hl : (n : Int) = c.sl) (hw : WsOk z.ws) (hwf : (Lit.int .i64 (x.cell 0)).wf = true) (he : x.tx.readE c (x.cell 0) = 0) (a : Int) :
    Calls Tryz.prog 157 #[.pointer (some ⟨X, 0, none⟩), .int .i64 a] w fun r w' => r = .returned (.int .i64 (Pg.began { x with tx := x.tx.read c (x.cell 0) } c (x.tx.readZ (x.cell 0) z)).a) ∧ PH o c A X R (Pg.began { x with tx := x.tx.read c (x.cell 0) } c (x.tx.readZ (x.cell 0) z)).z (Pg.began { x with tx := x.tx.read c (x.cell 0) } c (x.tx.readZ (x.cell 0) z)).x w' := by
  have hq := h.must_in hi
  have hbg : Beg { x with tx := x.tx.read c (x.cell 0) } c n (k + 1) := by
    have := read_beg hx hp ho hl1 he
    exact ⟨this.co.more (by omega), this.tx.more (by omega), fun q => (this.yes q).more (by omega), this.no⟩
  have hz2 : (x.tx.readZ (x.cell 0) z).hs.length = n ∧ WsOk (x.tx.readZ (x.cell 0) z).ws ∧ (x.tx.readZ (x.cell 0) z).ok c (k + 1) := by
    unfold Tt.readZ
    split
    · exact ⟨hz, hw, ok.more (by omega)⟩
    · split
      · exact ⟨hz, hw, ok.noted _⟩
      · exact ⟨hz, hw, ok.more (by omega)⟩
  obtain ⟨ce, hce⟩ : ∃ ce, ce = x.cell 0 := ⟨_, rfl⟩
  obtain ⟨xv, hxv⟩ : ∃ xv, xv = x.top 0 := ⟨_, rfl⟩
  simp only [← hce, ← hxv] at hbg hz2 he hwf ⊢
  obtain ⟨y, hy⟩ : ∃ y : Pg, y = { x with tx := x.tx.read c ce } := ⟨_, rfl⟩
  rw [← hy] at hbg ⊢
  obtain ⟨zz, hzz⟩ : ∃ zz, zz = (x.tx.readZ ce z) := ⟨_, rfl⟩
  rw [← hzz] at hz2 ⊢
  obtain ⟨out, hout⟩ : ∃ out, out = y.began c zz := ⟨_, rfl⟩
  rw [← hout]
  have HC : Hid (ce = topN x.fm.st 0 ∧ xv = topN x.fm.st 0 ∧ y = { x with tx := x.tx.read c ce } ∧ zz = (x.tx.readZ ce z) ∧ out = y.began c zz ∧ x.tx.readE c ce = 0) := ⟨hce, hxv, hy, hzz, hout, he⟩
  clear h hce hxv hy hzz hout he
  go_enter Tryz.func157, Tryz.ntmps157
  go_wp2_with fail
  refine hq.mono ?_
  rintro r w1 ⟨rfl, s1⟩
  clear hq
  obtain ⟨Q, v, u, rfl, hJ, hn, s2⟩ := s1.drew
  have c24 : w1.drew.cell? ⟨Q.X, 24, none⟩ = some (.pointer (some ⟨Q.P.T, 0, none⟩)) := s2.cell 7 rfl 24
  have hB : Calls Tryz.prog 188 #[.pointer (some ⟨Q.X, 0, none⟩), .int .i64 0] w1.drew fun r w' => r = .returned (.int .i64 ce) ∧ w'.cell? ⟨Q.X, 24, none⟩ = some (.pointer (some ⟨Q.P.T, 0, none⟩)) ∧ Hid (St o (txL c A Q.P x.tx ++ spI A c z v u :: (pgC A Q x ++ R)) w') := by
    refine (pBelow s2.inn rfl 0 (by omega)).mono ?_
    rintro r w' ⟨he, q⟩
    have q2 := St.outw (b := pgC A Q x) q
    exact ⟨by rw [he]; exact congrArg (fun t => Ending.returned (.int .i64 t)) (HC.out.1).symm, q2.cell 7 rfl 24, q2⟩
  clear s1 s2
  go_wp2_with fail
  go_region_with (first | (go_at_call 188; refine hB.mono ?_; rintro r w3 ⟨rfl, c24b, s3⟩; have hr := txRead s3.out hp hx.tx hz hl ok (by omega) hJ hn hwf; rw [show x.tx.readE c ce = 0 from HC.out.2.2.2.2.2, ← HC.out.2.2.2.1, ← HC.out.2.2.1] at hr; clear s3) | (go_at_call 196; refine hr.mono ?_; rintro r w4 ⟨rfl, s4⟩; have hb := s4.begun hbg hz2.2.2 (by omega) hz2.1 hf hz2.2.1; rw [← HC.out.2.2.2.2.1] at hb) | (go_at_call 193; refine hb.mono ?_; rintro r w5 ⟨rfl, s5⟩; have H5 := hid s5; clear s5 hb))
  all_goals
    go_wp2
    go_ret
    exact ⟨rfl, H5.out⟩
set_option maxRecDepth 100000 in
set_option maxHeartbeats 1000000 in
theorem PH.load_no (h : PH o c A X R z x w) (hi : x.inside = true) (hp : x.ph = 2) {n k : Nat} (hx : x.fit c n k) (ho : x.ins.op = 17) (hl1 : 1 ≤ x.fm.st.length) (ok : z.ok c k) (hk : k ≤ 800000000) (hf : c.fits = true) (hz : z.hs.length = n) (hl : (n : Int) = c.sl) (hw : WsOk z.ws) (hwf : (Lit.int .i64 (x.cell 0)).wf = true) (he : x.tx.readE c (x.cell 0) ≠ 0) (a : Int) :
    Calls Tryz.prog 157 #[.pointer (some ⟨X, 0, none⟩), .int .i64 a] w fun r w' => r = boom (if x.tx.readE c (x.cell 0) = 2 then 163 else x.tx.readE c (x.cell 0)) ∧ PH o c A X R z x w' := by
  have hq := h.must_in hi
  obtain ⟨ce, hce⟩ : ∃ ce, ce = x.cell 0 := ⟨_, rfl⟩
  obtain ⟨xv, hxv⟩ : ∃ xv, xv = x.top 0 := ⟨_, rfl⟩
  simp only [← hce, ← hxv] at he hwf ⊢
  obtain ⟨e9, he9⟩ : ∃ e9, e9 = x.tx.readE c ce := ⟨_, rfl⟩
  rw [← he9] at he ⊢
  obtain ⟨bv, hbv⟩ : ∃ bv, bv = (if e9 = 2 then 163 else e9) := ⟨_, rfl⟩
  rw [← hbv]
  have HBV := hid hbv
  clear hbv
  have HC : Hid (ce = topN x.fm.st 0 ∧ xv = topN x.fm.st 0 ∧ e9 = x.tx.readE c ce) := ⟨hce, hxv, he9⟩
  clear h hce hxv he9
  unfold boom
  go_enter Tryz.func157, Tryz.ntmps157
  go_wp2_with fail
  refine hq.mono ?_
  rintro r w1 ⟨rfl, s1⟩
  clear hq
  obtain ⟨Q, v, u, rfl, hJ, hn, s2⟩ := s1.drew
  have c24 : w1.drew.cell? ⟨Q.X, 24, none⟩ = some (.pointer (some ⟨Q.P.T, 0, none⟩)) := s2.cell 7 rfl 24
  have hB : Calls Tryz.prog 188 #[.pointer (some ⟨Q.X, 0, none⟩), .int .i64 0] w1.drew fun r w' => r = .returned (.int .i64 ce) ∧ w'.cell? ⟨Q.X, 24, none⟩ = some (.pointer (some ⟨Q.P.T, 0, none⟩)) ∧ Hid (St o (txL c A Q.P x.tx ++ spI A c z v u :: (pgC A Q x ++ R)) w') := by
    refine (pBelow s2.inn rfl 0 (by omega)).mono ?_
    rintro r w' ⟨he, q⟩
    have q2 := St.outw (b := pgC A Q x) q
    exact ⟨by rw [he]; exact congrArg (fun t => Ending.returned (.int .i64 t)) (HC.out.1).symm, q2.cell 7 rfl 24, q2⟩
  clear s1 s2
  go_wp2_with fail
  refine wp_region_any (by kernel_rfl) ?_
  change wpAny _ _ _ _ _ _ _ (World.drew _)
  refine wpAny_take (i := 0) (v := ?v1) rfl (by kernel_rfl) (by kernel_rfl) (by kernel_rfl) (fun _ _ _ h => h) (Or.inl ⟨by rfl, ?hy1⟩) ?_
  case hy1 => (intro w; go_simp; (try with_reducible rfl))
  refine wpAny_take (i := 1) (v := ?v2) rfl (by kernel_rfl) (by kernel_rfl) (by kernel_rfl) (fun _ _ _ h => h) (Or.inl ⟨by rfl, ?hy2⟩) ?_
  case hy2 => (intro w; go_simp; (try with_reducible rfl))
  refine wpAny_take (i := 2) (v := ?v3) rfl (by kernel_rfl) (by kernel_rfl) (by kernel_rfl) (fun _ _ _ h => h) (Or.inl ⟨by rfl, ?hy3⟩) ?_
  case hy3 => (intro w; go_simp; (try with_reducible rfl))
  refine wpAny_take (i := 3) (v := ?v4) rfl (by kernel_rfl) (by kernel_rfl) (by kernel_rfl) (fun _ _ _ h => h) (Or.inl ⟨by rfl, ?hy4⟩) ?_
  case hy4 => (intro w; go_simp; (try with_reducible rfl))
  refine wpAny_take (i := 5) (v := ?v5) rfl (by kernel_rfl) (by kernel_rfl) (by kernel_rfl) (fun _ _ _ h => h) (Or.inl ⟨by rfl, ?hy5⟩) ?_
  case hy5 => (intro w; go_simp; (try with_reducible rfl))
  refine wpAny_ready (rs := [4, 6]) (by kernel_rfl) (by simp) ?_
  refine AllReady.cons rfl (fun K hK => ?_) (AllReady.cons rfl (fun K hK => ?_) AllReady.nil)
  · go_simp
    refine hK _ _ ?_; clear hK K
    refine wpAny_ready (rs := [6]) (by kernel_rfl) (by simp) ?_
    refine AllReady.cons rfl (fun K hK => ?_) AllReady.nil
    go_simp
    refine hB.mono ?_
    rintro r w3 ⟨rfl, c24b, s3⟩
    go_wp2_with fail
    first | (refine hK _ _ ?_; clear hK K) | skip
    refine wpAny_ready (rs := [7]) (by kernel_rfl) (by simp) ?_
    refine AllReady.cons rfl (fun K hK => ?_) AllReady.nil
    go_simp
    have hr := txRead s3.out hp hx.tx hz hl ok (by omega) hJ hn hwf
    rw [← HC.out.2.2] at hr
    refine hr.mono ?_
    rintro r w4 ⟨rfl, s4⟩
    go_wp2_with fail
    first | (refine hK _ _ ?_; clear hK K) | skip
    refine wpAny_ready (rs := [8]) (by kernel_rfl) (by simp) ?_
    refine AllReady.cons rfl (fun K hK => ?_) AllReady.nil
    go_simp
    have hb := pBegun_no he Q.X w4
    rw [← HBV.out] at hb
    unfold boom at hb
    refine hb.mono ?_
    rintro r w5 ⟨rfl, rfl⟩
    clear hb
    obtain ⟨_, k1, k2⟩ := readE_two (x := x) (z := z) (c := c) hp (ce := ce) (by rw [← HC.out.2.2]; exact he)
    rw [k1, k2] at s4
    have H4 := hid s4
    clear s4
    go_wp2
    exact ⟨rfl, rfl, H4.out⟩
  · go_simp
    refine hB.mono ?_
    rintro r w3 ⟨rfl, c24b, s3⟩
    go_wp2_with fail
    first | (refine hK _ _ ?_; clear hK K) | skip
    refine wpAny_ready (rs := [4]) (by kernel_rfl) (by simp) ?_
    refine AllReady.cons rfl (fun K hK => ?_) AllReady.nil
    go_simp
    refine hK _ _ ?_; clear hK K
    refine wpAny_ready (rs := [7]) (by kernel_rfl) (by simp) ?_
    refine AllReady.cons rfl (fun K hK => ?_) AllReady.nil
    go_simp
    have hr := txRead s3.out hp hx.tx hz hl ok (by omega) hJ hn hwf
    rw [← HC.out.2.2] at hr
    refine hr.mono ?_
    rintro r w4 ⟨rfl, s4⟩
    go_wp2_with fail
    first | (refine hK _ _ ?_; clear hK K) | skip
    refine wpAny_ready (rs := [8]) (by kernel_rfl) (by simp) ?_
    refine AllReady.cons rfl (fun K hK => ?_) AllReady.nil
    go_simp
    have hb := pBegun_no he Q.X w4
    rw [← HBV.out] at hb
    unfold boom at hb
    refine hb.mono ?_
    rintro r w5 ⟨rfl, rfl⟩
    clear hb
    obtain ⟨_, k1, k2⟩ := readE_two (x := x) (z := z) (c := c) hp (ce := ce) (by rw [← HC.out.2.2]; exact he)
    rw [k1, k2] at s4
    have H4 := hid s4
    clear s4
    go_wp2
    exact ⟨rfl, rfl, H4.out⟩
set_option maxRecDepth 100000 in
set_option maxHeartbeats 1000000 in
theorem PH.store_ok (h : PH o c A X R z x w) (hi : x.inside = true) (hp : x.ph = 2) {n k : Nat} (hx : x.fit c n k) (ho : x.ins.op = 18) (hl1 : 2 ≤ x.fm.st.length) (ok : z.ok c k) (hk : k ≤ 800000000) (hf : c.fits = true) (hz : z.hs.length = n) (hl : (n : Int) = c.sl) (hw : WsOk z.ws) (hwf : (Lit.int .i64 (x.cell 1)).wf = true) (he : x.tx.writeE c (x.cell 1) = 0) (a : Int) :
    Calls Tryz.prog 158 #[.pointer (some ⟨X, 0, none⟩), .int .i64 a] w fun r w' => r = .returned (.int .i64 (Pg.began { x with tx := x.tx.write c (x.cell 1) (x.top 0) } c (x.tx.writeZ c (x.cell 1) (x.top 0) z)).a) ∧ PH o c A X R (Pg.began { x with tx := x.tx.write c (x.cell 1) (x.top 0) } c (x.tx.writeZ c (x.cell 1) (x.top 0) z)).z (Pg.began { x with tx := x.tx.write c (x.cell 1) (x.top 0) } c (x.tx.writeZ c (x.cell 1) (x.top 0) z)).x w' := by
  have hq := h.must_in hi
  have hbg : Beg { x with tx := x.tx.write c (x.cell 1) (x.top 0) } c n (k + 1) := by
    have := write_beg (v := x.top 0) hx hp ho hl1 he
    exact ⟨this.co.more (by omega), this.tx.more (by omega), fun q => (this.yes q).more (by omega), this.no⟩
  have hz2 : (x.tx.writeZ c (x.cell 1) (x.top 0) z).hs.length = n ∧ WsOk (x.tx.writeZ c (x.cell 1) (x.top 0) z).ws ∧ (x.tx.writeZ c (x.cell 1) (x.top 0) z).ok c (k + 1) := by
    have e9 : x.tx.writeZ c (x.cell 1) (x.top 0) z = z.noted (x.tx.evn 3 (x.cell 1) (x.top 0) false 0 0 0) := by unfold Tt.writeZ; rw [if_pos he]
    rw [e9]
    exact ⟨hz, hw, ok.noted _⟩
  obtain ⟨ce, hce⟩ : ∃ ce, ce = x.cell 1 := ⟨_, rfl⟩
  obtain ⟨xv, hxv⟩ : ∃ xv, xv = x.top 0 := ⟨_, rfl⟩
  simp only [← hce, ← hxv] at hbg hz2 he hwf ⊢
  obtain ⟨y, hy⟩ : ∃ y : Pg, y = { x with tx := x.tx.write c ce xv } := ⟨_, rfl⟩
  rw [← hy] at hbg ⊢
  obtain ⟨zz, hzz⟩ : ∃ zz, zz = (x.tx.writeZ c ce xv z) := ⟨_, rfl⟩
  rw [← hzz] at hz2 ⊢
  obtain ⟨out, hout⟩ : ∃ out, out = y.began c zz := ⟨_, rfl⟩
  rw [← hout]
  have HC : Hid (ce = topN x.fm.st 1 ∧ xv = topN x.fm.st 0 ∧ y = { x with tx := x.tx.write c ce xv } ∧ zz = (x.tx.writeZ c ce xv z) ∧ out = y.began c zz ∧ x.tx.writeE c ce = 0) := ⟨hce, hxv, hy, hzz, hout, he⟩
  clear h hce hxv hy hzz hout he
  go_enter Tryz.func158, Tryz.ntmps158
  go_wp2_with fail
  refine hq.mono ?_
  rintro r w1 ⟨rfl, s1⟩
  clear hq
  obtain ⟨Q, v, u, rfl, hJ, hn, s2⟩ := s1.drew
  have c24 : w1.drew.cell? ⟨Q.X, 24, none⟩ = some (.pointer (some ⟨Q.P.T, 0, none⟩)) := s2.cell 7 rfl 24
  have hB : Calls Tryz.prog 188 #[.pointer (some ⟨Q.X, 0, none⟩), .int .i64 1] w1.drew fun r w' => r = .returned (.int .i64 ce) ∧ w'.cell? ⟨Q.X, 24, none⟩ = some (.pointer (some ⟨Q.P.T, 0, none⟩)) ∧ Hid (St o (txL c A Q.P x.tx ++ spI A c z v u :: (pgC A Q x ++ R)) w') := by
    refine (pBelow s2.inn rfl 1 (by omega)).mono ?_
    rintro r w' ⟨he, q⟩
    have q2 := St.outw (b := pgC A Q x) q
    exact ⟨by rw [he]; exact congrArg (fun t => Ending.returned (.int .i64 t)) (HC.out.1).symm, q2.cell 7 rfl 24, q2⟩
  have HB0 : Hid (∀ W, St o (txL c A Q.P x.tx ++ spI A c z v u :: (pgC A Q x ++ R)) W → Calls Tryz.prog 188 #[.pointer (some ⟨Q.X, 0, none⟩), .int .i64 0] W fun r w' => r = .returned (.int .i64 xv) ∧ w'.cell? ⟨Q.X, 24, none⟩ = some (.pointer (some ⟨Q.P.T, 0, none⟩)) ∧ Hid (St o (txL c A Q.P x.tx ++ spI A c z v u :: (pgC A Q x ++ R)) w')) := by
    intro W hW
    refine (pBelow hW.inn rfl 0 (by omega)).mono ?_
    rintro r w' ⟨he, q⟩
    have q2 := St.outw (b := pgC A Q x) q
    exact ⟨by rw [he]; exact congrArg (fun t => Ending.returned (.int .i64 t)) (HC.out.2.1).symm, q2.cell 7 rfl 24, q2⟩
  clear s1 s2
  go_wp2_with fail
  go_region_with (first | (go_at_call 188; with_reducible refine hB.mono ?_; rintro r w2 ⟨rfl, c24c, s2b⟩; have hB2 := HB0.out _ s2b.out; clear s2b) | (go_at_call 188; with_reducible refine hB2.mono ?_; rintro r w3 ⟨rfl, c24b, s3⟩; have hr := txWrite s3.out hp hx.tx ok (by omega) hJ hn hwf xv; rw [show x.tx.writeE c ce = 0 from HC.out.2.2.2.2.2, ← HC.out.2.2.2.1, ← HC.out.2.2.1] at hr; clear s3) | (go_at_call 197; refine hr.mono ?_; rintro r w4 ⟨rfl, s4⟩; have hb := s4.begun hbg hz2.2.2 (by omega) hz2.1 hf hz2.2.1; rw [← HC.out.2.2.2.2.1] at hb) | (go_at_call 193; refine hb.mono ?_; rintro r w5 ⟨rfl, s5⟩; have H5 := hid s5; clear s5 hb))
  all_goals
    go_wp2
    go_ret
    exact ⟨rfl, H5.out⟩
set_option maxRecDepth 100000 in
set_option maxHeartbeats 1000000 in
theorem PH.store_no (h : PH o c A X R z x w) (hi : x.inside = true) (hp : x.ph = 2) {n k : Nat} (hx : x.fit c n k) (ho : x.ins.op = 18) (hl1 : 2 ≤ x.fm.st.length) (ok : z.ok c k) (hk : k ≤ 800000000) (hf : c.fits = true) (hz : z.hs.length = n) (hl : (n : Int) = c.sl) (hw : WsOk z.ws) (hwf : (Lit.int .i64 (x.cell 1)).wf = true) (he : x.tx.writeE c (x.cell 1) ≠ 0) (a : Int) :
    Calls Tryz.prog 158 #[.pointer (some ⟨X, 0, none⟩), .int .i64 a] w fun r w' => r = boom (if x.tx.writeE c (x.cell 1) = 2 then 163 else x.tx.writeE c (x.cell 1)) ∧ PH o c A X R z x w' := by
  have hq := h.must_in hi
  obtain ⟨ce, hce⟩ : ∃ ce, ce = x.cell 1 := ⟨_, rfl⟩
  obtain ⟨xv, hxv⟩ : ∃ xv, xv = x.top 0 := ⟨_, rfl⟩
  simp only [← hce, ← hxv] at he hwf ⊢
  obtain ⟨e9, he9⟩ : ∃ e9, e9 = x.tx.writeE c ce := ⟨_, rfl⟩
  rw [← he9] at he ⊢
  obtain ⟨bv, hbv⟩ : ∃ bv, bv = (if e9 = 2 then 163 else e9) := ⟨_, rfl⟩
  rw [← hbv]
  have HBV := hid hbv
  clear hbv
  have HC : Hid (ce = topN x.fm.st 1 ∧ xv = topN x.fm.st 0 ∧ e9 = x.tx.writeE c ce) := ⟨hce, hxv, he9⟩
  clear h hce hxv he9
  unfold boom
  go_enter Tryz.func158, Tryz.ntmps158
  go_wp2_with fail
  refine hq.mono ?_
  rintro r w1 ⟨rfl, s1⟩
  clear hq
  obtain ⟨Q, v, u, rfl, hJ, hn, s2⟩ := s1.drew
  have c24 : w1.drew.cell? ⟨Q.X, 24, none⟩ = some (.pointer (some ⟨Q.P.T, 0, none⟩)) := s2.cell 7 rfl 24
  have hB : Calls Tryz.prog 188 #[.pointer (some ⟨Q.X, 0, none⟩), .int .i64 1] w1.drew fun r w' => r = .returned (.int .i64 ce) ∧ w'.cell? ⟨Q.X, 24, none⟩ = some (.pointer (some ⟨Q.P.T, 0, none⟩)) ∧ Hid (St o (txL c A Q.P x.tx ++ spI A c z v u :: (pgC A Q x ++ R)) w') := by
    refine (pBelow s2.inn rfl 1 (by omega)).mono ?_
    rintro r w' ⟨he, q⟩
    have q2 := St.outw (b := pgC A Q x) q
    exact ⟨by rw [he]; exact congrArg (fun t => Ending.returned (.int .i64 t)) (HC.out.1).symm, q2.cell 7 rfl 24, q2⟩
  have HB0 : Hid (∀ W, St o (txL c A Q.P x.tx ++ spI A c z v u :: (pgC A Q x ++ R)) W → Calls Tryz.prog 188 #[.pointer (some ⟨Q.X, 0, none⟩), .int .i64 0] W fun r w' => r = .returned (.int .i64 xv) ∧ w'.cell? ⟨Q.X, 24, none⟩ = some (.pointer (some ⟨Q.P.T, 0, none⟩)) ∧ Hid (St o (txL c A Q.P x.tx ++ spI A c z v u :: (pgC A Q x ++ R)) w')) := by
    intro W hW
    refine (pBelow hW.inn rfl 0 (by omega)).mono ?_
    rintro r w' ⟨he, q⟩
    have q2 := St.outw (b := pgC A Q x) q
    exact ⟨by rw [he]; exact congrArg (fun t => Ending.returned (.int .i64 t)) (HC.out.2.1).symm, q2.cell 7 rfl 24, q2⟩
  clear s1 s2
  go_wp2_with fail
  refine wp_region_any (by kernel_rfl) ?_
  change wpAny _ _ _ _ _ _ _ (World.drew _)
  refine wpAny_take (i := 0) (v := ?v6) rfl (by kernel_rfl) (by kernel_rfl) (by kernel_rfl) (fun _ _ _ h => h) (Or.inl ⟨by rfl, ?hy6⟩) ?_
  case hy6 => (intro w; go_simp; (try with_reducible rfl))
  refine wpAny_take (i := 1) (v := ?v7) rfl (by kernel_rfl) (by kernel_rfl) (by kernel_rfl) (fun _ _ _ h => h) (Or.inl ⟨by rfl, ?hy7⟩) ?_
  case hy7 => (intro w; go_simp; (try with_reducible rfl))
  refine wpAny_take (i := 2) (v := ?v8) rfl (by kernel_rfl) (by kernel_rfl) (by kernel_rfl) (fun _ _ _ h => h) (Or.inl ⟨by rfl, ?hy8⟩) ?_
  case hy8 => (intro w; go_simp; (try with_reducible rfl))
  refine wpAny_take (i := 3) (v := ?v9) rfl (by kernel_rfl) (by kernel_rfl) (by kernel_rfl) (fun _ _ _ h => h) (Or.inl ⟨by rfl, ?hy9⟩) ?_
  case hy9 => (intro w; go_simp; (try with_reducible rfl))
  refine wpAny_take (i := 5) (v := ?v10) rfl (by kernel_rfl) (by kernel_rfl) (by kernel_rfl) (fun _ _ _ h => h) (Or.inl ⟨by rfl, ?hy10⟩) ?_
  case hy10 => (intro w; go_simp; (try with_reducible rfl))
  refine wpAny_take (i := 7) (v := ?v11) rfl (by kernel_rfl) (by kernel_rfl) (by kernel_rfl) (fun _ _ _ h => h) (Or.inl ⟨by rfl, ?hy11⟩) ?_
  case hy11 => (intro w; go_simp; (try with_reducible rfl))
  refine wpAny_ready (rs := [4, 6]) (by kernel_rfl) (by simp) ?_
  refine AllReady.cons rfl (fun K hK => ?_) (AllReady.cons rfl (fun K hK => ?_) AllReady.nil)
  · go_simp
    refine hK _ _ ?_; clear hK K
    refine wpAny_ready (rs := [6]) (by kernel_rfl) (by simp) ?_
    refine AllReady.cons rfl (fun K hK => ?_) AllReady.nil
    go_simp
    refine hB.mono ?_
    rintro r w2 ⟨rfl, c24c, s2b⟩
    go_wp2_with fail
    first | (refine hK _ _ ?_; clear hK K) | skip
    refine wpAny_ready (rs := [8]) (by kernel_rfl) (by simp) ?_
    refine AllReady.cons rfl (fun K hK => ?_) AllReady.nil
    go_simp
    refine (HB0.out _ s2b.out).mono ?_
    rintro r w3 ⟨rfl, c24b, s3⟩
    go_wp2_with fail
    first | (refine hK _ _ ?_; clear hK K) | skip
    refine wpAny_ready (rs := [9]) (by kernel_rfl) (by simp) ?_
    refine AllReady.cons rfl (fun K hK => ?_) AllReady.nil
    go_simp
    have hr := txWrite s3.out hp hx.tx ok (by omega) hJ hn hwf xv
    rw [← HC.out.2.2] at hr
    refine hr.mono ?_
    rintro r w4 ⟨rfl, s4⟩
    go_wp2_with fail
    first | (refine hK _ _ ?_; clear hK K) | skip
    refine wpAny_ready (rs := [10]) (by kernel_rfl) (by simp) ?_
    refine AllReady.cons rfl (fun K hK => ?_) AllReady.nil
    go_simp
    have hb := pBegun_no he Q.X w4
    rw [← HBV.out] at hb
    unfold boom at hb
    refine hb.mono ?_
    rintro r w5 ⟨rfl, rfl⟩
    clear hb
    obtain ⟨k1, k2⟩ := writeE_no (x := x) (z := z) (c := c) hp (ce := ce) (xv := xv) (by rw [← HC.out.2.2]; exact he)
    rw [k1, k2] at s4
    have H4 := hid s4
    clear s4
    go_wp2
    exact ⟨rfl, rfl, H4.out⟩
  · go_simp
    refine hB.mono ?_
    rintro r w2 ⟨rfl, c24c, s2b⟩
    go_wp2_with fail
    first | (refine hK _ _ ?_; clear hK K) | skip
    refine wpAny_ready (rs := [4, 8]) (by kernel_rfl) (by simp) ?_
    refine AllReady.cons rfl (fun K hK => ?_) (AllReady.cons rfl (fun K hK => ?_) AllReady.nil)
    · go_simp
      refine hK _ _ ?_; clear hK K
      refine wpAny_ready (rs := [8]) (by kernel_rfl) (by simp) ?_
      refine AllReady.cons rfl (fun K hK => ?_) AllReady.nil
      go_simp
      refine (HB0.out _ s2b.out).mono ?_
      rintro r w3 ⟨rfl, c24b, s3⟩
      go_wp2_with fail
      first | (refine hK _ _ ?_; clear hK K) | skip
      refine wpAny_ready (rs := [9]) (by kernel_rfl) (by simp) ?_
      refine AllReady.cons rfl (fun K hK => ?_) AllReady.nil
      go_simp
      have hr := txWrite s3.out hp hx.tx ok (by omega) hJ hn hwf xv
      rw [← HC.out.2.2] at hr
      refine hr.mono ?_
      rintro r w4 ⟨rfl, s4⟩
      go_wp2_with fail
      first | (refine hK _ _ ?_; clear hK K) | skip
      refine wpAny_ready (rs := [10]) (by kernel_rfl) (by simp) ?_
      refine AllReady.cons rfl (fun K hK => ?_) AllReady.nil
      go_simp
      have hb := pBegun_no he Q.X w4
      rw [← HBV.out] at hb
      unfold boom at hb
      refine hb.mono ?_
      rintro r w5 ⟨rfl, rfl⟩
      clear hb
      obtain ⟨k1, k2⟩ := writeE_no (x := x) (z := z) (c := c) hp (ce := ce) (xv := xv) (by rw [← HC.out.2.2]; exact he)
      rw [k1, k2] at s4
      have H4 := hid s4
      clear s4
      go_wp2
      exact ⟨rfl, rfl, H4.out⟩
    · go_simp
      refine (HB0.out _ s2b.out).mono ?_
      rintro r w3 ⟨rfl, c24b, s3⟩
      go_wp2_with fail
      first | (refine hK _ _ ?_; clear hK K) | skip
      refine wpAny_ready (rs := [4]) (by kernel_rfl) (by simp) ?_
      refine AllReady.cons rfl (fun K hK => ?_) AllReady.nil
      go_simp
      refine hK _ _ ?_; clear hK K
      refine wpAny_ready (rs := [9]) (by kernel_rfl) (by simp) ?_
      refine AllReady.cons rfl (fun K hK => ?_) AllReady.nil
      go_simp
      have hr := txWrite s3.out hp hx.tx ok (by omega) hJ hn hwf xv
      rw [← HC.out.2.2] at hr
      refine hr.mono ?_
      rintro r w4 ⟨rfl, s4⟩
      go_wp2_with fail
      first | (refine hK _ _ ?_; clear hK K) | skip
      refine wpAny_ready (rs := [10]) (by kernel_rfl) (by simp) ?_
      refine AllReady.cons rfl (fun K hK => ?_) AllReady.nil
      go_simp
      have hb := pBegun_no he Q.X w4
      rw [← HBV.out] at hb
      unfold boom at hb
      refine hb.mono ?_
      rintro r w5 ⟨rfl, rfl⟩
      clear hb
      obtain ⟨k1, k2⟩ := writeE_no (x := x) (z := z) (c := c) hp (ce := ce) (xv := xv) (by rw [← HC.out.2.2]; exact he)
      rw [k1, k2] at s4
      have H4 := hid s4
      clear s4
      go_wp2
      exact ⟨rfl, rfl, H4.out⟩

end
end Go.Proofs.YthbcbjkgjgmegaaGreat

namespace Go.Proofs.YthbcbjkgjgmegaaGreat
open Go.RowKit
set_option linter.unusedVariables false
set_option linter.unusedSimpArgs false
attribute [local go_sem ↓] Go.wp_at_zero Go.wp_at_succ
section
variable {o w : World} {its R : List It} {A : Ad} {c : Cfg} {z : SSt} {v u : Value} {Q : PA} {x : Pg} {X : Nat}
theorem PH.txBegin (h : PH o c A X R z x w) (hp : x.ph = 0) (h1 : 1 ≤ x.sm) (t1 : 1 ≤ x.tx.th) (t8 : x.tx.th ≤ 8) : ∃ T, w.cell? ⟨X, 24, none⟩ = some (.pointer (some ⟨T, 0, none⟩)) ∧ w.cell? ⟨X, 10, none⟩ = some (.int .i64 x.sm) ∧ Calls Tryz.prog 194 #[.pointer (some ⟨T, 0, none⟩), .int .i64 x.sm] w fun r w' => r = .returned (.int .i64 0) ∧ PH o c A X R z { x with tx := x.tx.begin_ x.sm } w' := by
  obtain ⟨Q, v, u, rfl, hJ, hn, h⟩ := h
  refine ⟨Q.P.T, h.cell 7 rfl 24, h.cell 7 rfl 10, (tBegin_ok h hp h1 t1 t8).mono ?_⟩
  rintro r w' ⟨he, P', hT, q⟩
  refine ⟨he, { Q with P := P' }, v, u, rfl, fun y e => ?_, hn, ?_⟩
  · have hb : (x.tx.begin_ x.sm).dg = .beg (Bg.new x.tx.th x.sm) := by
      unfold Tt.begin_ Tt.beginE
      rw [if_neg (show ¬ x.tx.dg.phase ≠ 0 from fun q => q hp), if_neg (show ¬ x.sm < 1 by omega), if_pos rfl]
    have e : (x.tx.begin_ x.sm).dg = .com y := e
    rw [hb] at e
    cases e
  · rw [pgV_P A Q x hT]
    exact q
theorem PH.stamp (h : PH o c A X R z x w) : w.cell? ⟨X, 10, none⟩ = some (.int .i64 x.sm) := by
  obtain ⟨Q, v, u, rfl, hJ, hn, h⟩ := h
  exact h.cell 7 rfl 10

set_option maxRecDepth 100000 in
set_option maxHeartbeats 2000000 in
theorem PH.begin_old (h : PH o c A X R z x w) (hi : x.inside = false) (hp : x.ph = 0) (hd : x.dn = false) {n k : Nat} (hx : x.fit c n k) (ho : x.ins.op = 16) (ok : z.ok c k) (hk : k ≤ 800000000) (hf : c.fits = true) (hz : z.hs.length = n) (hn1 : 1 ≤ n) (hw : WsOk z.ws) (hs : 1 ≤ z.s.st) (hsm : x.sm ≠ 0) (a : Int) :
    Calls Tryz.prog 156 #[.pointer (some ⟨X, 0, none⟩), .int .i64 a] w fun r w' => r = .returned (.int .i64 (Pg.began { x.starts z.s.st with tx := (x.starts z.s.st).tx.begin_ (x.starts z.s.st).sm } c z).a) ∧ PH o c A X R (Pg.began { x.starts z.s.st with tx := (x.starts z.s.st).tx.begin_ (x.starts z.s.st).sm } c z).z (Pg.began { x.starts z.s.st with tx := (x.starts z.s.st).tx.begin_ (x.starts z.s.st).sm } c z).x w' := by
  have hq := h.inside
  rw [hi] at hq
  have hbg := begin_beg hx hp hd ho hs hn1
  have hth1 := hx.tx.th1
  have hth8 := hx.tx.th8
  have hsm5 := starts_sm x hs hx.co.m0
  obtain ⟨e1, e2, e3, e4⟩ := starts_same x z.s.st
  have hph5 : (x.starts z.s.st).ph = 0 := by unfold Pg.ph; rw [e1]; exact hp
  rw [← e1] at hth1 hth8
  have hst : x.starts z.s.st = x := by unfold Pg.starts; rw [if_neg hsm]
  have HST := hid hst
  clear hst
  have msm : (x.sm == 0) = false := by simpa using hsm
  obtain ⟨y, hy⟩ : ∃ y : Pg, y = x.starts z.s.st := ⟨_, rfl⟩
  rw [← hy] at hbg hth1 hth8 hsm5 hph5 ⊢
  obtain ⟨out, hout⟩ : ∃ out, out = Pg.began { y with tx := y.tx.begin_ y.sm } c z := ⟨_, rfl⟩
  rw [← hout]
  have HO := hid hout
  have HY := hid hy
  clear h hout hy e1 e2 e3 e4 hsm hd ho hi hp
  go_enter Tryz.func156, Tryz.ntmps156
  go_wp2_with fail
  refine hq.mono ?_
  rintro r w1 ⟨rfl, s1⟩
  clear hq
  have c10 := s1.stamp
  go_upto_region 5 with fail
  have s5 := s1
  rw [← HST.out, ← HY.out] at s5
  clear s1 c10
  obtain ⟨T, cT, c10, hB⟩ := s5.drew.txBegin hph5 hsm5 hth1 hth8
  clear s5
  go_wp2_with fail
  go_region_with (first | (go_at_call 194; refine hB.mono ?_; rintro r w6 ⟨rfl, s6⟩; have hb := s6.begun hbg ok (by omega) hz hf hw; rw [← HO.out] at hb; clear s6) | (go_at_call 193; refine hb.mono ?_; rintro r w7 ⟨rfl, s7⟩; have H7 := hid s7; clear s7 hb))
  all_goals
    go_wp2
    go_ret
    exact ⟨rfl, H7.out⟩

set_option maxRecDepth 100000 in
set_option maxHeartbeats 2000000 in
theorem PH.begin_new (h : PH o c A X R z x w) (hi : x.inside = false) (hp : x.ph = 0) (hd : x.dn = false) {n k : Nat} (hx : x.fit c n k) (ho : x.ins.op = 16) (ok : z.ok c k) (hk : k ≤ 800000000) (hf : c.fits = true) (hz : z.hs.length = n) (hn1 : 1 ≤ n) (hw : WsOk z.ws) (hs : 1 ≤ z.s.st) (hsm : x.sm = 0) (a : Int) :
    Calls Tryz.prog 156 #[.pointer (some ⟨X, 0, none⟩), .int .i64 a] w fun r w' => r = .returned (.int .i64 (Pg.began { x.starts z.s.st with tx := (x.starts z.s.st).tx.begin_ (x.starts z.s.st).sm } c z).a) ∧ PH o c A X R (Pg.began { x.starts z.s.st with tx := (x.starts z.s.st).tx.begin_ (x.starts z.s.st).sm } c z).z (Pg.began { x.starts z.s.st with tx := (x.starts z.s.st).tx.begin_ (x.starts z.s.st).sm } c z).x w' := by
  have hq := h.inside
  rw [hi] at hq
  have hbg := begin_beg hx hp hd ho hs hn1
  have hth1 := hx.tx.th1
  have hth8 := hx.tx.th8
  have hsm5 := starts_sm x hs hx.co.m0
  obtain ⟨e1, e2, e3, e4⟩ := starts_same x z.s.st
  have hph5 : (x.starts z.s.st).ph = 0 := by unfold Pg.ph; rw [e1]; exact hp
  rw [← e1] at hth1 hth8
  have hst : x.starts z.s.st = { x with sm := z.s.st, tr := 0, sv := x.fm, hd := [] } := by unfold Pg.starts; rw [if_pos hsm]
  have HST := hid hst
  have HSM := hid hsm
  clear hst
  obtain ⟨y, hy⟩ : ∃ y : Pg, y = x.starts z.s.st := ⟨_, rfl⟩
  rw [← hy] at hbg hth1 hth8 hsm5 hph5 ⊢
  obtain ⟨out, hout⟩ : ∃ out, out = Pg.began { y with tx := y.tx.begin_ y.sm } c z := ⟨_, rfl⟩
  rw [← hout]
  have HO := hid hout
  have HY := hid hy
  clear h hout hy e1 e2 e3 e4 hsm hd ho hi hp
  go_enter Tryz.func156, Tryz.ntmps156
  go_wp2_with fail
  refine hq.mono ?_
  rintro r w1 ⟨rfl, s1⟩
  clear hq
  have c10 := s1.stamp
  rw [HSM.out] at c10
  go_upto_region 4 with fail
  clear c10
  obtain ⟨Q, v, u, rfl, hJ, hn, s2⟩ := s1.drew
  clear s1
  have s2i := s2.inn
  have ev : svI Q.S2 Q.v2 x.sm x.sv = joinI [] := if_pos HSM.out
  have es : svV Q.S2 x.sm = .pointer none := if_pos HSM.out
  have hc : ∀ j, w1.drew.cell? ⟨Q.X, j, none⟩ = (pgV A Q x)[j]? := fun j => s2i.cell 0 rfl j
  have c23 : w1.drew.cell? ⟨Q.X, 23, none⟩ = some (spp A) := hc 23
  have c0 : w1.drew.cell? ⟨Q.X, 0, none⟩ = some (.int .i64 x.fm.pl) := hc 0
  have c1 : w1.drew.cell? ⟨Q.X, 1, none⟩ = some (.pointer (some ⟨Q.S, 0, none⟩)) := hc 1
  have c2 : w1.drew.cell? ⟨Q.X, 2, none⟩ = some (.int .i64 (x.fm.lo.getD 0 0)) := hc 2
  have c3 : w1.drew.cell? ⟨Q.X, 3, none⟩ = some (.int .i64 (x.fm.lo.getD 1 0)) := hc 3
  have c4 : w1.drew.cell? ⟨Q.X, 4, none⟩ = some (.int .i64 (x.fm.lo.getD 2 0)) := hc 4
  have c5 : w1.drew.cell? ⟨Q.X, 5, none⟩ = some (.int .i64 (x.fm.lo.getD 3 0)) := hc 5
  have c6 : w1.drew.cell? ⟨Q.X, 6, none⟩ = some (.int .i64 (x.fm.lo.getD 4 0)) := hc 6
  have c7 : w1.drew.cell? ⟨Q.X, 7, none⟩ = some (.int .i64 (x.fm.lo.getD 5 0)) := hc 7
  have c8 : w1.drew.cell? ⟨Q.X, 8, none⟩ = some (.int .i64 (x.fm.lo.getD 6 0)) := hc 8
  have c9 : w1.drew.cell? ⟨Q.X, 9, none⟩ = some (.int .i64 (x.fm.lo.getD 7 0)) := hc 9
  have hS := spStep s2 6 rfl
  have hC := pCopy s2i 1 rfl x.fm
  unfold spp at c23 hS
  unfold Fm.val at hC
  simp only [Fm.l_int] at hC
  have HF : Hid (∀ S' v' W, St o (stkI S' v' x.fm.st :: (pgC A Q x ++ (txL c A Q.P x.tx ++ spI A c z v u :: R))) W → (∀ j, W.cell? ⟨Q.X, j, none⟩ = (pgV A Q x)[j]?) ∧ (∀ j, W.frozen? ⟨Q.X, j, none⟩ = false) ∧ PH o c A Q.X R z y (((((((((((((W.setCell ⟨Q.X, 10, none⟩ (.int .i64 z.s.st)).setCell ⟨Q.X, 11, none⟩ (.int .i64 0)).setCell ⟨Q.X, 12, none⟩ (.int .i64 x.fm.pl)).setCell ⟨Q.X, 13, none⟩ (.pointer (some ⟨S', 0, none⟩))).setCell ⟨Q.X, 14, none⟩ (.int .i64 (x.fm.lo.getD 0 0))).setCell ⟨Q.X, 15, none⟩ (.int .i64 (x.fm.lo.getD 1 0))).setCell ⟨Q.X, 16, none⟩ (.int .i64 (x.fm.lo.getD 2 0))).setCell ⟨Q.X, 17, none⟩ (.int .i64 (x.fm.lo.getD 3 0))).setCell ⟨Q.X, 18, none⟩ (.int .i64 (x.fm.lo.getD 4 0))).setCell ⟨Q.X, 19, none⟩ (.int .i64 (x.fm.lo.getD 5 0))).setCell ⟨Q.X, 20, none⟩ (.int .i64 (x.fm.lo.getD 6 0))).setCell ⟨Q.X, 21, none⟩ (.int .i64 (x.fm.lo.getD 7 0))).setCell ⟨Q.X, 22, none⟩ (.slice none 0 0))) := by
    intro S' v' W hW
    have q0 : St o (boxI Q.X (pgW A Q x).toArray 105 :: stkI S' v' x.fm.st :: stkI Q.S Q.v x.fm.st :: joinI [] :: ownI 79 2 Q.lv x.li.length (insCells x.li) :: ownI 2 1 Q.hv x.hd.length (clCells x.hd) :: ownI 2 1 Q.tv x.td.length (clCells x.td) :: (txL c A Q.P x.tx ++ spI A c z v u :: R)) W := by rw [← ev]; exact hW.swap
    refine ⟨fun j => q0.cell 0 rfl j, fun j => q0.frozen 0 rfl j, ?_⟩
    have q1 := St.writesL [.int .i64 z.s.st, .int .i64 0, .int .i64 x.fm.pl, .pointer (some ⟨S', 0, none⟩), .int .i64 (x.fm.lo.getD 0 0), .int .i64 (x.fm.lo.getD 1 0), .int .i64 (x.fm.lo.getD 2 0), .int .i64 (x.fm.lo.getD 3 0), .int .i64 (x.fm.lo.getD 4 0), .int .i64 (x.fm.lo.getD 5 0), .int .i64 (x.fm.lo.getD 6 0), .int .i64 (x.fm.lo.getD 7 0), .slice none 0 0] 10 q0
    have hne : z.s.st ≠ 0 := by omega
    have e0 : svV S' z.s.st = .pointer (some ⟨S', 0, none⟩) := if_neg hne
    rw [← e0] at q1
    have e1 : setL (pgW A Q x) 10 [.int .i64 z.s.st, .int .i64 0, .int .i64 x.fm.pl, svV S' z.s.st, .int .i64 (x.fm.lo.getD 0 0), .int .i64 (x.fm.lo.getD 1 0), .int .i64 (x.fm.lo.getD 2 0), .int .i64 (x.fm.lo.getD 3 0), .int .i64 (x.fm.lo.getD 4 0), .int .i64 (x.fm.lo.getD 5 0), .int .i64 (x.fm.lo.getD 6 0), .int .i64 (x.fm.lo.getD 7 0), .slice none 0 0] = pgW A { Q with S2 := S', v2 := v', hv := .slice none 0 0 } { x with sm := z.s.st, tr := 0, sv := x.fm, hd := [] } := by kernel_rfl
    rw [e1] at q1
    have q2 : St o (boxI Q.X (pgW A { Q with S2 := S', v2 := v', hv := .slice none 0 0 } { x with sm := z.s.st, tr := 0, sv := x.fm, hd := [] }).toArray 105 :: stkI Q.S Q.v x.fm.st :: stkI S' v' x.fm.st :: joinI [] :: ownI 79 2 Q.lv x.li.length (insCells x.li) :: ownI 2 1 Q.hv x.hd.length (clCells x.hd) :: ownI 2 1 Q.tv x.td.length (clCells x.td) :: (txL c A Q.P x.tx ++ spI A c z v u :: R)) _ := q1.perm (List.Perm.cons _ (List.Perm.swap ..))
    have q3 := (St.popAt (pre := [_, _, _]) q2).empty 4 rfl 2 1
    have e2 : svI S' v' z.s.st x.fm = stkI S' v' x.fm.st := if_neg hne
    have hcv : ∀ W', St o (boxI Q.X (pgW A { Q with S2 := S', v2 := v', hv := .slice none 0 0 } { x with sm := z.s.st, tr := 0, sv := x.fm, hd := [] }).toArray 105 :: stkI Q.S Q.v x.fm.st :: stkI S' v' x.fm.st :: ownI 79 2 Q.lv x.li.length (insCells x.li) :: ownI 2 1 (.slice none 0 0) 0 [] :: ownI 2 1 Q.tv x.td.length (clCells x.td) :: (txL c A Q.P x.tx ++ spI A c z v u :: R)) W' → St o (pgC A { Q with S2 := S', v2 := v', hv := .slice none 0 0 } { x with sm := z.s.st, tr := 0, sv := x.fm, hd := [] } ++ (txL c A Q.P x.tx ++ spI A c z v u :: R)) W' := fun W' h => by
      unfold pgC
      simp only [e2]
      exact h
    have q4 := hcv _ q3
    simp only [World.setCells, Nat.reduceAdd] at q4
    rw [e0] at q4
    rw [HY.out, HST.out]
    exact ⟨{ Q with S2 := S', v2 := v', hv := .slice none 0 0 }, v, u, rfl, hJ, fun _ => rfl, q4.outw⟩
  clear s2 s2i ev hc
  obtain ⟨st0, hst0⟩ : ∃ st0, st0 = z.s.st := ⟨_, rfl⟩
  rw [← hst0] at hS HF
  have HS0 := hid hst0
  clear hst0
  generalize x.fm.lo.getD 0 0 = b0 at *
  generalize x.fm.lo.getD 1 0 = b1 at *
  generalize x.fm.lo.getD 2 0 = b2 at *
  generalize x.fm.lo.getD 3 0 = b3 at *
  generalize x.fm.lo.getD 4 0 = b4 at *
  generalize x.fm.lo.getD 5 0 = b5 at *
  generalize x.fm.lo.getD 6 0 = b6 at *
  generalize x.fm.lo.getD 7 0 = b7 at *
  generalize x.fm.pl = pl at *
  go_region_with (first | (go_at_call 192; refine hS.mono ?_; rintro r wx ⟨rfl, rfl⟩) | (go_at_call 182; refine hC.mono ?_; rintro r w3 ⟨S', v', rfl, s3⟩; have hF := HF.out S' v' w3 s3; have d10 : w3.cell? ⟨Q.X, 10, none⟩ = some (.int .i64 x.sm) := hF.1 10; have d11 : w3.cell? ⟨Q.X, 11, none⟩ = some (.int .i64 x.tr) := hF.1 11; have d12 : w3.cell? ⟨Q.X, 12, none⟩ = some (.int .i64 x.sv.pl) := hF.1 12; have d13 : w3.cell? ⟨Q.X, 13, none⟩ = some (svV Q.S2 x.sm) := hF.1 13; have d14 : w3.cell? ⟨Q.X, 14, none⟩ = some (x.sv.l 0) := hF.1 14; have d15 : w3.cell? ⟨Q.X, 15, none⟩ = some (x.sv.l 1) := hF.1 15; have d16 : w3.cell? ⟨Q.X, 16, none⟩ = some (x.sv.l 2) := hF.1 16; have d17 : w3.cell? ⟨Q.X, 17, none⟩ = some (x.sv.l 3) := hF.1 17; have d18 : w3.cell? ⟨Q.X, 18, none⟩ = some (x.sv.l 4) := hF.1 18; have d19 : w3.cell? ⟨Q.X, 19, none⟩ = some (x.sv.l 5) := hF.1 19; have d20 : w3.cell? ⟨Q.X, 20, none⟩ = some (x.sv.l 6) := hF.1 20; have d21 : w3.cell? ⟨Q.X, 21, none⟩ = some (x.sv.l 7) := hF.1 21; have d22 : w3.cell? ⟨Q.X, 22, none⟩ = some Q.hv := hF.1 22; have hfz := hF.2.1; have H5 := hid hF.2.2; clear hF s3))
  all_goals
    clear d10 d11 d12 d13 d14 d15 d16 d17 d18 d19 d20 d21 d22 hfz
    have s5 := H5.out
    generalize (((((((((((((w3.setCell ⟨Q.X, 10, none⟩ (.int .i64 st0)).setCell ⟨Q.X, 11, none⟩ (.int .i64 0)).setCell ⟨Q.X, 12, none⟩ (.int .i64 pl)).setCell ⟨Q.X, 13, none⟩ (.pointer (some ⟨S', 0, none⟩))).setCell ⟨Q.X, 14, none⟩ (.int .i64 b0)).setCell ⟨Q.X, 15, none⟩ (.int .i64 b1)).setCell ⟨Q.X, 16, none⟩ (.int .i64 b2)).setCell ⟨Q.X, 17, none⟩ (.int .i64 b3)).setCell ⟨Q.X, 18, none⟩ (.int .i64 b4)).setCell ⟨Q.X, 19, none⟩ (.int .i64 b5)).setCell ⟨Q.X, 20, none⟩ (.int .i64 b6)).setCell ⟨Q.X, 21, none⟩ (.int .i64 b7)).setCell ⟨Q.X, 22, none⟩ (.slice none 0 0)) = w5 at *
    clear H5
    obtain ⟨T, cT, c10, hB⟩ := s5.drew.txBegin hph5 hsm5 hth1 hth8
    clear s5
    go_wp2_with fail
    go_region_with (first | (go_at_call 194; refine hB.mono ?_; rintro r w6 ⟨rfl, s6⟩; have hb := s6.begun hbg ok (by omega) hz hf hw; rw [← HO.out] at hb; clear s6) | (go_at_call 193; refine hb.mono ?_; rintro r w7 ⟨rfl, s7⟩; have H7 := hid s7; clear s7 hb))
    all_goals
      go_wp2
      go_ret
      exact ⟨rfl, H7.out⟩
set_option maxRecDepth 100000 in
set_option maxHeartbeats 2000000 in
theorem PH.tell_in (h : PH o c A X R z x w) (hi : x.inside = true) (hl : 0 < x.fm.st.length) (p0 : 0 ≤ x.fm.pl) (p1 : x.fm.pl ≤ 1000) (hlen : x.hd.length + x.td.length ≤ 1000000000) (a : Int) :
    Calls Tryz.prog 161 #[.pointer (some ⟨X, 0, none⟩), .int .i64 a] w fun r w' => r = .returned (.int .i64 1) ∧ PH o c A X R z ({ x.stack (x.drop 1) with hd := x.hd ++ [x.top 0] } : Pg).next w' := by
  obtain ⟨i0, hi0, hz0, hz1, hz2⟩ := info_parts Tryz.infoI64
  obtain ⟨Q, v, u, rfl, hJ, hn, s0⟩ := h
  have hq := pTake s0.inn rfl hl
  obtain ⟨t0, ht0⟩ : ∃ t0, t0 = topN x.fm.st 0 := ⟨_, rfl⟩
  have htop : x.top 0 = t0 := ht0.symm
  rw [htop]
  rw [← ht0] at hq
  clear s0 ht0 htop
  go_enter Tryz.func161, Tryz.ntmps161
  go_wp2_with fail
  refine hq.mono ?_
  rintro r w1 ⟨rfl, v1, s1⟩
  clear hq
  have s2 : PH o c A Q.X R z (x.stack (x.drop 1)) w1 := ⟨{ Q with v := v1 }, v, u, rfl, hJ, hn, St.outw (b := pgC A { Q with v := v1 } (x.stack (x.drop 1))) s1⟩
  have hq := s2.inside
  rw [show (x.stack (x.drop 1)).inside = x.inside from rfl, hi] at hq
  clear s1 s2
  go_wp2_with fail
  refine hq.mono ?_
  rintro r w2 ⟨rfl, s2⟩
  clear hq
  obtain ⟨Q2, v2, u2, hQX, hJ2, hn2, s3⟩ := s2
  clear hJ hn
  have s4 := s3.inn
  clear s3
  rw [← hQX]
  have HQX := hid hQX
  clear hQX
  generalize hxx : x.stack (x.drop 1) = xx at *
  have hlx : xx.hd.length + xx.td.length ≤ 1000000000 := by rw [← hxx]; exact hlen
  have hpp : xx.fm.pl = x.fm.pl := by rw [← hxx]; rfl
  have HX : Hid (x.stack (x.drop 1) = xx) := hid hxx
  have hff : x.hd = xx.hd := by rw [← hxx]; rfl
  have HFF := hid hff
  clear hxx hff
  have hown : w2.ownsRow 0 2 1 Q2.hv xx.hd.length (clCells xx.hd) := s4.get 4 rfl
  obtain ⟨la, lc, hlv⟩ := own_form (show (ownI 2 1 Q2.hv xx.hd.length (clCells xx.hd)).P w2 from hown)
  have c22 : w2.cell? ⟨Q2.X, 22, none⟩ = some (.slice la xx.hd.length lc) := (s4.cell 0 rfl 22).trans (congrArg some hlv)
  have HG : Hid (∀ g cap w5, w5.ownsRow 0 2 1 (.slice (some ⟨g, 0, none⟩) (xx.hd.length + 1) cap) (xx.hd.length + 1) (clCells xx.hd ++ [.int .i64 t0]) → (w2.alloc (.cells #[.int .i64 t0] 2)).grownBy w5 (Value.ownBlock (.slice la xx.hd.length lc)) → (Value.ownBlock (.slice la xx.hd.length lc) = some g ∨ g = w2.heap.size + 1) →
      St o (pgC A { Q2 with hv := .slice (some ⟨g, 0, none⟩) (xx.hd.length + 1) cap } { xx with hd := xx.hd ++ [t0] } ++ (txL c A Q2.P xx.tx ++ spI A c z v2 u2 :: R)) (w5.setCell ⟨Q2.X, 22, none⟩ (.slice (some ⟨g, 0, none⟩) (xx.hd.length + 1) cap)) ∧ w5.cell? ⟨Q2.X, 22, none⟩ = some (.slice la xx.hd.length lc) ∧ w5.frozen? ⟨Q2.X, 22, none⟩ = false) := by
    intro g cap w5 q1 q2 q3
    rw [← hlv] at q2 q3 ⊢
    have e1 : clCells xx.hd ++ [.int .i64 t0] = clCells (xx.hd ++ [t0]) := by simp [clCells]
    have e2 : xx.hd.length + 1 = (xx.hd ++ [t0]).length := by simp
    rw [e1, e2] at q1
    rw [e2]
    obtain ⟨a1, a2, a3⟩ := St.grew s4 (i := 0) (j := 4) (by decide) rfl rfl (kept_alloc w2 _) q1 q2 (q3.imp_right (fun e => by omega)) 22
    exact ⟨a1, a2, a3⟩
  have hbb : (xx.hd.length + 1) * 8 ≤ 140737488355328 := by omega
  have hmm : xx.hd.length + 1 ≤ maxLen := by unfold maxLen; omega
  rw [hlv] at hown
  clear s4 hlv hlen hlx
  have ho2 := hown.alloc (.cells #[.int .i64 t0] 2)
  generalize hTC : clCells xx.hd = TC at *
  generalize hTN : xx.hd.length = tn at *
  clear hTC
  have HTN := hid hTN
  clear hTN
  go_wp2_with (at_builtin; refine wpList_append_lies _ rfl (.tmp 15) (.tmp 17) 37 rfl 0 2 i0 _ 1 8 Tryz.underlying37 hi0 hz0 hz1 hz2 rfl (by omega) (.slice la tn lc) tn TC rfl ho2 ⟨w2.heap.size, 0, none⟩ 1 1 [.int .i64 t0] rfl rfl (World.news_of_block (cs := #[.int .i64 t0]) (t := 2) (fr := (0, 0)) (heap_alloc_new w2 _)) (by simp [Value.oneCell']) (by omega) hmm hbb (Nat.zero_le _) (w2.heap.size + 1) (by simp) ?_; intro g cap w5 hown5 hgrow hat hlt; obtain ⟨s6, e26, ef26⟩ := HG.out g cap w5 hown5 hgrow hat; have hq9 := pNext s6 rfl (by rw [hpp]; exact p0) (by rw [hpp]; exact p1); clear s6 HG hown5 hgrow hat hlt)
  refine hq9.mono ?_
  rintro r w9 ⟨rfl, s9⟩
  have H9 := hid s9
  clear hq9 s9
  go_wp2
  go_ret
  refine ⟨rfl, ?_⟩
  rw [show ({ x.stack (x.drop 1) with hd := x.hd ++ [t0] } : Pg).next = ({ xx with hd := xx.hd ++ [t0] } : Pg).next from by rw [HX.out, HFF.out]]
  exact ⟨{ Q2 with hv := .slice (some ⟨g, 0, none⟩) (tn + 1) cap }, v2, u2, HQX.out, hJ2, fun e => absurd e (by simp [Pg.next]), St.outw (b := pgC A { Q2 with hv := .slice (some ⟨g, 0, none⟩) (tn + 1) cap } ({ xx with hd := xx.hd ++ [t0] } : Pg).next) H9.out⟩
set_option maxRecDepth 100000 in
set_option maxHeartbeats 2000000 in
theorem PH.tell_out (h : PH o c A X R z x w) (hi : x.inside = false) (hl : 0 < x.fm.st.length) (p0 : 0 ≤ x.fm.pl) (p1 : x.fm.pl ≤ 1000) (hlen : x.hd.length + x.td.length ≤ 1000000000) (a : Int) :
    Calls Tryz.prog 161 #[.pointer (some ⟨X, 0, none⟩), .int .i64 a] w fun r w' => r = .returned (.int .i64 1) ∧ PH o c A X R z ({ x.stack (x.drop 1) with td := x.td ++ [x.top 0] } : Pg).next w' := by
  obtain ⟨i0, hi0, hz0, hz1, hz2⟩ := info_parts Tryz.infoI64
  obtain ⟨Q, v, u, rfl, hJ, hn, s0⟩ := h
  have hq := pTake s0.inn rfl hl
  obtain ⟨t0, ht0⟩ : ∃ t0, t0 = topN x.fm.st 0 := ⟨_, rfl⟩
  have htop : x.top 0 = t0 := ht0.symm
  rw [htop]
  rw [← ht0] at hq
  clear s0 ht0 htop
  go_enter Tryz.func161, Tryz.ntmps161
  go_wp2_with fail
  refine hq.mono ?_
  rintro r w1 ⟨rfl, v1, s1⟩
  clear hq
  have s2 : PH o c A Q.X R z (x.stack (x.drop 1)) w1 := ⟨{ Q with v := v1 }, v, u, rfl, hJ, hn, St.outw (b := pgC A { Q with v := v1 } (x.stack (x.drop 1))) s1⟩
  have hq := s2.inside
  rw [show (x.stack (x.drop 1)).inside = x.inside from rfl, hi] at hq
  clear s1 s2
  go_wp2_with fail
  refine hq.mono ?_
  rintro r w2 ⟨rfl, s2⟩
  clear hq
  obtain ⟨Q2, v2, u2, hQX, hJ2, hn2, s3⟩ := s2
  clear hJ hn
  have s4 := s3.inn
  clear s3
  rw [← hQX]
  have HQX := hid hQX
  clear hQX
  generalize hxx : x.stack (x.drop 1) = xx at *
  have hlx : xx.hd.length + xx.td.length ≤ 1000000000 := by rw [← hxx]; exact hlen
  have hpp : xx.fm.pl = x.fm.pl := by rw [← hxx]; rfl
  have HX : Hid (x.stack (x.drop 1) = xx) := hid hxx
  have hff : x.td = xx.td := by rw [← hxx]; rfl
  have HFF := hid hff
  clear hxx hff
  have hown : w2.ownsRow 0 2 1 Q2.tv xx.td.length (clCells xx.td) := s4.get 5 rfl
  obtain ⟨la, lc, hlv⟩ := own_form (show (ownI 2 1 Q2.tv xx.td.length (clCells xx.td)).P w2 from hown)
  have c22 : w2.cell? ⟨Q2.X, 26, none⟩ = some (.slice la xx.td.length lc) := (s4.cell 0 rfl 26).trans (congrArg some hlv)
  have HG : Hid (∀ g cap w5, w5.ownsRow 0 2 1 (.slice (some ⟨g, 0, none⟩) (xx.td.length + 1) cap) (xx.td.length + 1) (clCells xx.td ++ [.int .i64 t0]) → (w2.alloc (.cells #[.int .i64 t0] 2)).grownBy w5 (Value.ownBlock (.slice la xx.td.length lc)) → (Value.ownBlock (.slice la xx.td.length lc) = some g ∨ g = w2.heap.size + 1) →
      St o (pgC A { Q2 with tv := .slice (some ⟨g, 0, none⟩) (xx.td.length + 1) cap } { xx with td := xx.td ++ [t0] } ++ (txL c A Q2.P xx.tx ++ spI A c z v2 u2 :: R)) (w5.setCell ⟨Q2.X, 26, none⟩ (.slice (some ⟨g, 0, none⟩) (xx.td.length + 1) cap)) ∧ w5.cell? ⟨Q2.X, 26, none⟩ = some (.slice la xx.td.length lc) ∧ w5.frozen? ⟨Q2.X, 26, none⟩ = false) := by
    intro g cap w5 q1 q2 q3
    rw [← hlv] at q2 q3 ⊢
    have e1 : clCells xx.td ++ [.int .i64 t0] = clCells (xx.td ++ [t0]) := by simp [clCells]
    have e2 : xx.td.length + 1 = (xx.td ++ [t0]).length := by simp
    rw [e1, e2] at q1
    rw [e2]
    obtain ⟨a1, a2, a3⟩ := St.grew s4 (i := 0) (j := 5) (by decide) rfl rfl (kept_alloc w2 _) q1 q2 (q3.imp_right (fun e => by omega)) 26
    exact ⟨a1, a2, a3⟩
  have hbb : (xx.td.length + 1) * 8 ≤ 140737488355328 := by omega
  have hmm : xx.td.length + 1 ≤ maxLen := by unfold maxLen; omega
  rw [hlv] at hown
  clear s4 hlv hlen hlx
  have ho2 := hown.alloc (.cells #[.int .i64 t0] 2)
  generalize hTC : clCells xx.td = TC at *
  generalize hTN : xx.td.length = tn at *
  clear hTC
  have HTN := hid hTN
  clear hTN
  go_wp2_with (at_builtin; refine wpList_append_lies _ rfl (.tmp 26) (.tmp 28) 37 rfl 0 2 i0 _ 1 8 Tryz.underlying37 hi0 hz0 hz1 hz2 rfl (by omega) (.slice la tn lc) tn TC rfl ho2 ⟨w2.heap.size, 0, none⟩ 1 1 [.int .i64 t0] rfl rfl (World.news_of_block (cs := #[.int .i64 t0]) (t := 2) (fr := (0, 0)) (heap_alloc_new w2 _)) (by simp [Value.oneCell']) (by omega) hmm hbb (Nat.zero_le _) (w2.heap.size + 1) (by simp) ?_; intro g cap w5 hown5 hgrow hat hlt; obtain ⟨s6, e26, ef26⟩ := HG.out g cap w5 hown5 hgrow hat; have hq9 := pNext s6 rfl (by rw [hpp]; exact p0) (by rw [hpp]; exact p1); clear s6 HG hown5 hgrow hat hlt)
  refine hq9.mono ?_
  rintro r w9 ⟨rfl, s9⟩
  have H9 := hid s9
  clear hq9 s9
  go_wp2
  go_ret
  refine ⟨rfl, ?_⟩
  rw [show ({ x.stack (x.drop 1) with td := x.td ++ [t0] } : Pg).next = ({ xx with td := xx.td ++ [t0] } : Pg).next from by rw [HX.out, HFF.out]]
  exact ⟨{ Q2 with tv := .slice (some ⟨g, 0, none⟩) (tn + 1) cap }, v2, u2, HQX.out, hJ2, hn2, St.outw (b := pgC A { Q2 with tv := .slice (some ⟨g, 0, none⟩) (tn + 1) cap } ({ xx with td := xx.td ++ [t0] } : Pg).next) H9.out⟩

end
end Go.Proofs.YthbcbjkgjgmegaaGreat
