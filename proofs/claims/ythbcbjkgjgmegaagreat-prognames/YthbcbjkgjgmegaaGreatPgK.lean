/- Each instruction, as the model has it; a step. -/
import Derived.Test.YthbcbjkgjgmegaaGreatPgJ
import Derived.Test.YthbcbjkgjgmegaaGreatPgR
import Derived.Defers
import Derived.Recover
namespace Go.Proofs.YthbcbjkgjgmegaaGreat
open Go.RowKit
set_option linter.unusedVariables false
set_option linter.unusedSimpArgs false
attribute [local go_sem ↓] Go.wp_at_zero Go.wp_at_succ
section
variable {x : Pg} {i : Ins} {c : Cfg} {z : SSt}
theorem plain_1 (e : i.op = 1) : x.plain i = (x.stack (x.fm.st ++ [i.a])).next := by
  unfold Pg.plain
  rw [if_pos e]
theorem plain_2 (e : i.op = 2) : x.plain i = (x.stack (x.drop 1)).next := by
  unfold Pg.plain
  rw [if_neg (show ¬ i.op = 1 by omega), if_pos e]
theorem plain_3 (e : i.op = 3) : x.plain i = (x.stack (x.fm.st ++ [x.top 0])).next := by
  unfold Pg.plain
  rw [if_neg (show ¬ i.op = 1 by omega), if_neg (show ¬ i.op = 2 by omega), if_pos e]
theorem plain_4 (e : i.op = 4) : x.plain i = (x.stack (x.drop 2 ++ [x.top 0, x.top 1])).next := by
  unfold Pg.plain
  rw [if_neg (show ¬ i.op = 1 by omega), if_neg (show ¬ i.op = 2 by omega), if_neg (show ¬ i.op = 3 by omega), if_pos e]
theorem plain_5 (e : i.op = 5) : x.plain i = (x.stack (x.fm.st ++ [x.fm.lo.getD i.a.toNat 0])).next := by
  unfold Pg.plain
  rw [if_neg (show ¬ i.op = 1 by omega), if_neg (show ¬ i.op = 2 by omega), if_neg (show ¬ i.op = 3 by omega), if_neg (show ¬ i.op = 4 by omega), if_pos e]
theorem plain_6 (e : i.op = 6) : x.plain i = ({ x with fm := ⟨x.fm.pl, x.drop 1, x.fm.lo.set i.a.toNat (x.top 0)⟩ } : Pg).next := by
  unfold Pg.plain
  rw [if_neg (show ¬ i.op = 1 by omega), if_neg (show ¬ i.op = 2 by omega), if_neg (show ¬ i.op = 3 by omega), if_neg (show ¬ i.op = 4 by omega), if_neg (show ¬ i.op = 5 by omega), if_pos e]
theorem plain_7 (e : i.op = 7) : x.plain i = (x.stack (x.drop 2 ++ [wrp (x.top 1 + x.top 0)])).next := by
  unfold Pg.plain
  rw [if_neg (show ¬ i.op = 1 by omega), if_neg (show ¬ i.op = 2 by omega), if_neg (show ¬ i.op = 3 by omega), if_neg (show ¬ i.op = 4 by omega), if_neg (show ¬ i.op = 5 by omega), if_neg (show ¬ i.op = 6 by omega), if_pos (show i.op < 13 by omega)]
  unfold sumM
  rw [if_pos e]
theorem plain_8 (e : i.op = 8) : x.plain i = (x.stack (x.drop 2 ++ [wrp (x.top 1 - x.top 0)])).next := by
  unfold Pg.plain
  rw [if_neg (show ¬ i.op = 1 by omega), if_neg (show ¬ i.op = 2 by omega), if_neg (show ¬ i.op = 3 by omega), if_neg (show ¬ i.op = 4 by omega), if_neg (show ¬ i.op = 5 by omega), if_neg (show ¬ i.op = 6 by omega), if_pos (show i.op < 13 by omega)]
  unfold sumM
  rw [if_neg (show ¬ i.op = 7 by omega), if_pos e]
theorem plain_9 (e : i.op = 9) : x.plain i = (x.stack (x.drop 2 ++ [wrp (x.top 1 * x.top 0)])).next := by
  unfold Pg.plain
  rw [if_neg (show ¬ i.op = 1 by omega), if_neg (show ¬ i.op = 2 by omega), if_neg (show ¬ i.op = 3 by omega), if_neg (show ¬ i.op = 4 by omega), if_neg (show ¬ i.op = 5 by omega), if_neg (show ¬ i.op = 6 by omega), if_pos (show i.op < 13 by omega)]
  unfold sumM
  rw [if_neg (show ¬ i.op = 7 by omega), if_neg (show ¬ i.op = 8 by omega), if_pos e]
theorem plain_10 (e : i.op = 10) : x.plain i = (x.stack (x.drop 2 ++ [modM (x.top 1) (x.top 0)])).next := by
  unfold Pg.plain
  rw [if_neg (show ¬ i.op = 1 by omega), if_neg (show ¬ i.op = 2 by omega), if_neg (show ¬ i.op = 3 by omega), if_neg (show ¬ i.op = 4 by omega), if_neg (show ¬ i.op = 5 by omega), if_neg (show ¬ i.op = 6 by omega), if_pos (show i.op < 13 by omega)]
  unfold sumM
  rw [if_neg (show ¬ i.op = 7 by omega), if_neg (show ¬ i.op = 8 by omega), if_neg (show ¬ i.op = 9 by omega), if_pos e]
theorem plain_11 (e : i.op = 11) : x.plain i = (x.stack (x.drop 2 ++ [ifM (decide (x.top 1 < x.top 0))])).next := by
  unfold Pg.plain
  rw [if_neg (show ¬ i.op = 1 by omega), if_neg (show ¬ i.op = 2 by omega), if_neg (show ¬ i.op = 3 by omega), if_neg (show ¬ i.op = 4 by omega), if_neg (show ¬ i.op = 5 by omega), if_neg (show ¬ i.op = 6 by omega), if_pos (show i.op < 13 by omega)]
  unfold sumM
  rw [if_neg (show ¬ i.op = 7 by omega), if_neg (show ¬ i.op = 8 by omega), if_neg (show ¬ i.op = 9 by omega), if_neg (show ¬ i.op = 10 by omega), if_pos e]
theorem plain_12 (e : i.op = 12) : x.plain i = (x.stack (x.drop 2 ++ [ifM (x.top 1 == x.top 0)])).next := by
  unfold Pg.plain
  rw [if_neg (show ¬ i.op = 1 by omega), if_neg (show ¬ i.op = 2 by omega), if_neg (show ¬ i.op = 3 by omega), if_neg (show ¬ i.op = 4 by omega), if_neg (show ¬ i.op = 5 by omega), if_neg (show ¬ i.op = 6 by omega), if_pos (show i.op < 13 by omega)]
  unfold sumM
  rw [if_neg (show ¬ i.op = 7 by omega), if_neg (show ¬ i.op = 8 by omega), if_neg (show ¬ i.op = 9 by omega), if_neg (show ¬ i.op = 10 by omega), if_neg (show ¬ i.op = 11 by omega)]
theorem plain_13 (e : i.op = 13) : x.plain i = (x.stack (x.drop 1 ++ [ifM (x.top 0 == 0)])).next := by
  unfold Pg.plain
  rw [if_neg (show ¬ i.op = 1 by omega), if_neg (show ¬ i.op = 2 by omega), if_neg (show ¬ i.op = 3 by omega), if_neg (show ¬ i.op = 4 by omega), if_neg (show ¬ i.op = 5 by omega), if_neg (show ¬ i.op = 6 by omega), if_neg (show ¬ i.op < 13 by omega), if_pos e]
theorem plain_14 (e : i.op = 14) : x.plain i = { x with fm := { x.fm with pl := i.a } } := by
  unfold Pg.plain
  rw [if_neg (show ¬ i.op = 1 by omega), if_neg (show ¬ i.op = 2 by omega), if_neg (show ¬ i.op = 3 by omega), if_neg (show ¬ i.op = 4 by omega), if_neg (show ¬ i.op = 5 by omega), if_neg (show ¬ i.op = 6 by omega), if_neg (show ¬ i.op < 13 by omega), if_neg (show ¬ i.op = 13 by omega), if_pos e]
theorem plain_15 (e : i.op = 15) : x.plain i = (if x.top 0 = 0 then { x with fm := ⟨i.a, x.drop 1, x.fm.lo⟩ } else (x.stack (x.drop 1)).next) := by
  unfold Pg.plain
  rw [if_neg (show ¬ i.op = 1 by omega), if_neg (show ¬ i.op = 2 by omega), if_neg (show ¬ i.op = 3 by omega), if_neg (show ¬ i.op = 4 by omega), if_neg (show ¬ i.op = 5 by omega), if_neg (show ¬ i.op = 6 by omega), if_neg (show ¬ i.op < 13 by omega), if_neg (show ¬ i.op = 13 by omega), if_neg (show ¬ i.op = 14 by omega), if_pos e]
theorem plain_21 (e : i.op = 21) : x.plain i = (if x.inside then ({ x.stack (x.drop 1) with hd := x.hd ++ [x.top 0] } : Pg).next else ({ x.stack (x.drop 1) with td := x.td ++ [x.top 0] } : Pg).next) := by
  unfold Pg.plain
  rw [if_neg (show ¬ i.op = 1 by omega), if_neg (show ¬ i.op = 2 by omega), if_neg (show ¬ i.op = 3 by omega), if_neg (show ¬ i.op = 4 by omega), if_neg (show ¬ i.op = 5 by omega), if_neg (show ¬ i.op = 6 by omega), if_neg (show ¬ i.op < 13 by omega), if_neg (show ¬ i.op = 13 by omega), if_neg (show ¬ i.op = 14 by omega), if_neg (show ¬ i.op = 15 by omega)]
theorem does_plain (h : i.op < 16 ∨ i.op = 21) : x.does c z i = ⟨x.plain i, z, 1⟩ := by
  unfold Pg.does
  rw [if_neg (by omega), if_neg (by omega), if_neg (by omega), if_neg (by omega), if_neg (by omega), if_neg (by omega)]
end
theorem pgV_lo (A : Ad) (Q : PA) (x : Pg) : ∀ k : Nat, k < 8 → (pgV A Q x)[2 + k]? = some (.int .i64 (x.fm.lo.getD k 0))
  | 0, _ => rfl
  | 1, _ => rfl
  | 2, _ => rfl
  | 3, _ => rfl
  | 4, _ => rfl
  | 5, _ => rfl
  | 6, _ => rfl
  | 7, _ => rfl
  | n + 8, h => absurd h (by omega)
theorem eight (l : List Int) (h : l.length = 8) : ∃ a0 a1 a2 a3 a4 a5 a6 a7, l = [a0, a1, a2, a3, a4, a5, a6, a7] := by
  match l, h with
  | [a0, a1, a2, a3, a4, a5, a6, a7], _ => exact ⟨a0, a1, a2, a3, a4, a5, a6, a7, rfl⟩
theorem pgV_set (A : Ad) (Q : PA) (x : Pg) (hl : x.fm.lo.length = 8) (t : Int) (st : List Int) (v' : Value) : ∀ k : Nat, k < 8 → ((pgV A Q x).setIfInBounds (2 + k) (.int .i64 t)).setIfInBounds 0 (.int .i64 (x.fm.pl + 1)) = pgV A { Q with v := v' } { x with fm := ⟨x.fm.pl + 1, st, x.fm.lo.set k t⟩ } := by
  obtain ⟨a0, a1, a2, a3, a4, a5, a6, a7, e⟩ := eight _ hl
  intro k hk
  obtain ⟨⟨pl, s, lo⟩, sm, tr, sv, hd, tx, li, td, dn, er⟩ := x
  simp only at e
  subst e
  have hk' : k = 0 ∨ k = 1 ∨ k = 2 ∨ k = 3 ∨ k = 4 ∨ k = 5 ∨ k = 6 ∨ k = 7 := by omega
  clear hk hl
  rcases hk' with rfl | rfl | rfl | rfl | rfl | rfl | rfl | rfl
  all_goals (show _ = _; first | rfl | kernel_rfl)
section
variable {o w : World} {its R : List It} {A : Ad} {c : Cfg} {z : SSt} {v u : Value} {Q : PA} {x : Pg} {X : Nat}
set_option maxHeartbeats 1000000 in
theorem PH.meth (h : PH o c A X R z x w) (hd : x.dn = false) (hu : x.under = false) {n k : Nat} (hx : x.fit c n k) (hg : x.rng) (ok : z.ok c k) (hk : k ≤ 800000000) (hf : c.fits = true) (hz : z.hs.length = n) (hl : (n : Int) = c.sl) (h1 : 1 ≤ n) (h8 : n ≤ 8) (hw : WsOk z.ws) (hs : 1 ≤ z.s.st) (hr : x.refuses c x.ins = 0) :
    Calls Tryz.prog (methOf x.ins.op) #[.pointer (some ⟨X, 0, none⟩), .int .i64 x.ins.a] w fun r w' => r = .returned (.int .i64 (x.does c z x.ins).a) ∧ PH o c A X R (x.does c z x.ins).z (x.does c z x.ins).x w' := by
  obtain ⟨r1, r2, r3⟩ := refuses_zero x c _ hr
  obtain ⟨d1, d2⟩ := wrong_depth r1
  obtain ⟨hkn, hmay⟩ := hx.co.ins
  obtain ⟨o1, o2⟩ := known_cases hkn
  have p0 := hx.co.p0
  have p1 : x.fm.pl ≤ 1000 := by have := hx.co.p1; have := (checkM_all hx.co.ck).1; omega
  have hsl := hx.co.sl
  have hhl := hx.co.hl
  have hc : x.ins.op = 1 ∨ x.ins.op = 2 ∨ x.ins.op = 3 ∨ x.ins.op = 4 ∨ x.ins.op = 5 ∨ x.ins.op = 6 ∨ x.ins.op = 7 ∨ x.ins.op = 8 ∨ x.ins.op = 9 ∨ x.ins.op = 10 ∨ x.ins.op = 11 ∨ x.ins.op = 12 ∨ x.ins.op = 13 ∨ x.ins.op = 14 ∨ x.ins.op = 15 ∨ x.ins.op = 16 ∨ x.ins.op = 17 ∨ x.ins.op = 18 ∨ x.ins.op = 19 ∨ x.ins.op = 20 ∨ x.ins.op = 21 ∨ x.ins.op = 22 := by omega
  rcases hc with e | e | e | e | e | e | e | e | e | e | e | e | e | e | e | e | e | e | e | e | e | e
  · rw [show methOf x.ins.op = 141 by rw [e]; rfl]
    rw [does_plain (by omega), plain_1 e]
    rw [e] at d1 d2 hmay
    obtain ⟨Q, v, u, rfl, hJ, hn, s⟩ := h
    exact (i_push s.inn rfl rfl p0 p1 (by simp [rowOf, rowsL] at d2; omega) x.ins.a).mono fun r w' ⟨he, v', q⟩ => ⟨he, { Q with v := v' }, v, u, rfl, hJ, hn, St.outw (b := pgC A { Q with v := v' } (x.stack (x.fm.st ++ [x.ins.a])).next) q⟩
  · rw [show methOf x.ins.op = 142 by rw [e]; rfl]
    rw [does_plain (by omega), plain_2 e]
    rw [e] at d1 d2 hmay
    obtain ⟨Q, v, u, rfl, hJ, hn, s⟩ := h
    exact (i_pop s.inn rfl rfl p0 p1 (by simp [rowOf, rowsL] at d1; omega) x.ins.a).mono fun r w' ⟨he, v', q⟩ => ⟨he, { Q with v := v' }, v, u, rfl, hJ, hn, St.outw (b := pgC A { Q with v := v' } (x.stack (x.drop 1)).next) q⟩
  · rw [show methOf x.ins.op = 143 by rw [e]; rfl]
    rw [does_plain (by omega), plain_3 e]
    rw [e] at d1 d2 hmay
    obtain ⟨Q, v, u, rfl, hJ, hn, s⟩ := h
    exact (i_dup s.inn rfl rfl p0 p1 (by simp [rowOf, rowsL] at d1; omega) (by simp [rowOf, rowsL] at d2; omega) x.ins.a).mono fun r w' ⟨he, v', q⟩ => ⟨he, { Q with v := v' }, v, u, rfl, hJ, hn, St.outw (b := pgC A { Q with v := v' } (x.stack (x.fm.st ++ [x.top 0])).next) q⟩
  · rw [show methOf x.ins.op = 144 by rw [e]; rfl]
    rw [does_plain (by omega), plain_4 e]
    rw [e] at d1 d2 hmay
    obtain ⟨Q, v, u, rfl, hJ, hn, s⟩ := h
    exact (i_swap s.inn rfl rfl p0 p1 (by simp [rowOf, rowsL] at d1; omega) x.ins.a).mono fun r w' ⟨he, v', q⟩ => ⟨he, { Q with v := v' }, v, u, rfl, hJ, hn, St.outw (b := pgC A { Q with v := v' } (x.stack (x.drop 2 ++ [x.top 0, x.top 1])).next) q⟩
  · rw [show methOf x.ins.op = 145 by rw [e]; rfl]
    rw [does_plain (by omega), plain_5 e]
    rw [e] at d1 d2 hmay
    obtain ⟨a1, a2⟩ := may_local hmay
    obtain ⟨j, hj⟩ : ∃ j : Nat, x.ins.a = j := ⟨x.ins.a.toNat, by omega⟩
    rw [hj]
    obtain ⟨Q, v, u, rfl, hJ, hn, s⟩ := h
    exact (i_get s.inn rfl rfl p0 p1 (by simp [rowOf, rowsL] at d2; omega) j (by omega) (pgV_lo A Q x j (by omega))).mono fun r w' ⟨he, v', q⟩ => ⟨he, { Q with v := v' }, v, u, rfl, hJ, hn, St.outw (b := pgC A { Q with v := v' } (x.stack (x.fm.st ++ [x.fm.lo.getD j 0])).next) q⟩
  · rw [show methOf x.ins.op = 146 by rw [e]; rfl]
    rw [does_plain (by omega), plain_6 e]
    rw [e] at d1 d2 hmay
    obtain ⟨a1, a2⟩ := may_local hmay
    obtain ⟨j, hj⟩ : ∃ j : Nat, x.ins.a = j := ⟨x.ins.a.toNat, by omega⟩
    rw [hj]
    obtain ⟨Q, v, u, rfl, hJ, hn, s⟩ := h
    refine (i_set s.inn rfl rfl p0 p1 (by simp [rowOf, rowsL] at d1; omega) j (by omega) (pgV_lo A Q x j (by omega))).mono fun r w' ⟨he, v', q⟩ => ⟨he, { Q with v := v' }, v, u, rfl, hJ, hn, St.outw (b := pgC A { Q with v := v' } ({ x with fm := ⟨x.fm.pl, x.drop 1, x.fm.lo.set j (x.top 0)⟩ } : Pg).next) ?_⟩
    rw [pgV_set A Q x hx.co.ll (topN x.fm.st 0) (x.drop 1) v' j (by omega)] at q
    exact q
  · rw [show methOf x.ins.op = 147 by rw [e]; rfl]
    rw [does_plain (by omega), plain_7 e]
    rw [e] at d1 d2 hmay
    obtain ⟨Q, v, u, rfl, hJ, hn, s⟩ := h
    exact (i_add s.inn rfl rfl p0 p1 (by simp [rowOf, rowsL] at d1; omega) hsl x.ins.a).mono fun r w' ⟨he, v', q⟩ => ⟨he, { Q with v := v' }, v, u, rfl, hJ, hn, St.outw (b := pgC A { Q with v := v' } (x.stack (x.drop 2 ++ [wrp (x.top 1 + x.top 0)])).next) q⟩
  · rw [show methOf x.ins.op = 148 by rw [e]; rfl]
    rw [does_plain (by omega), plain_8 e]
    rw [e] at d1 d2 hmay
    obtain ⟨Q, v, u, rfl, hJ, hn, s⟩ := h
    exact (i_sub s.inn rfl rfl p0 p1 (by simp [rowOf, rowsL] at d1; omega) hsl x.ins.a).mono fun r w' ⟨he, v', q⟩ => ⟨he, { Q with v := v' }, v, u, rfl, hJ, hn, St.outw (b := pgC A { Q with v := v' } (x.stack (x.drop 2 ++ [wrp (x.top 1 - x.top 0)])).next) q⟩
  · rw [show methOf x.ins.op = 149 by rw [e]; rfl]
    rw [does_plain (by omega), plain_9 e]
    rw [e] at d1 d2 hmay
    obtain ⟨Q, v, u, rfl, hJ, hn, s⟩ := h
    exact (i_mul s.inn rfl rfl p0 p1 (by simp [rowOf, rowsL] at d1; omega) hsl x.ins.a).mono fun r w' ⟨he, v', q⟩ => ⟨he, { Q with v := v' }, v, u, rfl, hJ, hn, St.outw (b := pgC A { Q with v := v' } (x.stack (x.drop 2 ++ [wrp (x.top 1 * x.top 0)])).next) q⟩
  · rw [show methOf x.ins.op = 150 by rw [e]; rfl]
    rw [does_plain (by omega), plain_10 e]
    rw [e] at d1 d2 hmay
    obtain ⟨Q, v, u, rfl, hJ, hn, s⟩ := h
    exact (i_mod s.inn rfl rfl p0 p1 (by simp [rowOf, rowsL] at d1; omega) hsl x.ins.a).mono fun r w' ⟨he, v', q⟩ => ⟨he, { Q with v := v' }, v, u, rfl, hJ, hn, St.outw (b := pgC A { Q with v := v' } (x.stack (x.drop 2 ++ [modM (x.top 1) (x.top 0)])).next) q⟩
  · rw [show methOf x.ins.op = 151 by rw [e]; rfl]
    rw [does_plain (by omega), plain_11 e]
    rw [e] at d1 d2 hmay
    obtain ⟨Q, v, u, rfl, hJ, hn, s⟩ := h
    exact (i_less s.inn rfl rfl p0 p1 (by simp [rowOf, rowsL] at d1; omega) hsl x.ins.a).mono fun r w' ⟨he, v', q⟩ => ⟨he, { Q with v := v' }, v, u, rfl, hJ, hn, St.outw (b := pgC A { Q with v := v' } (x.stack (x.drop 2 ++ [ifM (decide (x.top 1 < x.top 0))])).next) q⟩
  · rw [show methOf x.ins.op = 152 by rw [e]; rfl]
    rw [does_plain (by omega), plain_12 e]
    rw [e] at d1 d2 hmay
    obtain ⟨Q, v, u, rfl, hJ, hn, s⟩ := h
    exact (i_same s.inn rfl rfl p0 p1 (by simp [rowOf, rowsL] at d1; omega) hsl x.ins.a).mono fun r w' ⟨he, v', q⟩ => ⟨he, { Q with v := v' }, v, u, rfl, hJ, hn, St.outw (b := pgC A { Q with v := v' } (x.stack (x.drop 2 ++ [ifM (x.top 1 == x.top 0)])).next) q⟩
  · rw [show methOf x.ins.op = 153 by rw [e]; rfl]
    rw [does_plain (by omega), plain_13 e]
    rw [e] at d1 d2 hmay
    obtain ⟨Q, v, u, rfl, hJ, hn, s⟩ := h
    exact (i_not s.inn rfl rfl p0 p1 (by simp [rowOf, rowsL] at d1; omega) hsl x.ins.a).mono fun r w' ⟨he, v', q⟩ => ⟨he, { Q with v := v' }, v, u, rfl, hJ, hn, St.outw (b := pgC A { Q with v := v' } (x.stack (x.drop 1 ++ [ifM (x.top 0 == 0)])).next) q⟩
  · rw [show methOf x.ins.op = 154 by rw [e]; rfl]
    rw [does_plain (by omega), plain_14 e]
    rw [e] at d1 d2 hmay
    obtain ⟨Q, v, u, rfl, hJ, hn, s⟩ := h
    exact (i_jump s.inn rfl x.ins.a).mono fun r w' ⟨he, q⟩ => ⟨he, Q, v, u, rfl, hJ, hn, St.outw (b := pgC A Q { x with fm := { x.fm with pl := x.ins.a } }) q⟩
  · rw [show methOf x.ins.op = 155 by rw [e]; rfl]
    rw [does_plain (by omega), plain_15 e]
    rw [e] at d1 d2 hmay
    obtain ⟨Q, v, u, rfl, hJ, hn, s⟩ := h
    refine (i_zero s.inn rfl rfl p0 p1 (by simp [rowOf, rowsL] at d1; omega) x.ins.a).mono fun r w' ⟨he, v', q⟩ => ⟨he, ?_⟩
    by_cases ht : x.top 0 = 0
    · rw [if_pos ht]
      rw [if_pos (show topN x.fm.st 0 = 0 from ht)] at q
      exact ⟨{ Q with v := v' }, v, u, rfl, hJ, hn, St.outw (b := pgC A { Q with v := v' } { x with fm := ⟨x.ins.a, x.drop 1, x.fm.lo⟩ }) q⟩
    · rw [if_neg ht]
      rw [if_neg (show ¬ topN x.fm.st 0 = 0 from ht)] at q
      exact ⟨{ Q with v := v' }, v, u, rfl, hJ, hn, St.outw (b := pgC A { Q with v := v' } (x.stack (x.drop 1)).next) q⟩
  · rw [show methOf x.ins.op = 156 by rw [e]; rfl]
    rw [show x.does c z x.ins = Pg.began { x.starts z.s.st with tx := (x.starts z.s.st).tx.begin_ (x.starts z.s.st).sm } c z by unfold Pg.does; rw [if_pos e]]
    have hi := wrong_out r1 (.inl e)
    by_cases hsm : x.sm = 0
    · exact h.begin_new hi (out_idle hu hi) hd hx e ok hk hf hz h1 hw hs hsm _
    · exact h.begin_old hi (out_idle hu hi) hd hx e ok hk hf hz h1 hw hs hsm _
  · rw [show methOf x.ins.op = 157 by rw [e]; rfl]
    rw [show x.does c z x.ins = Pg.began { x with tx := x.tx.read c (x.cell 0) } c (x.tx.readZ (x.cell 0) z) by unfold Pg.does; rw [if_neg (by omega), if_pos e]]
    have hi := wrong_in r1 (.inl e)
    rw [e] at d1
    exact h.load_ok hi (in_two hu hi) hx e (by simp [rowOf, rowsL] at d1; omega) ok hk hf hz hl hw (hg.st.top 0).wf (r2 e) _
  · rw [show methOf x.ins.op = 158 by rw [e]; rfl]
    rw [show x.does c z x.ins = Pg.began { x with tx := x.tx.write c (x.cell 1) (x.top 0) } c (x.tx.writeZ c (x.cell 1) (x.top 0) z) by unfold Pg.does; rw [if_neg (by omega), if_neg (by omega), if_pos e]]
    have hi := wrong_in r1 (.inr (.inl e))
    rw [e] at d1
    exact h.store_ok hi (in_two hu hi) hx e (by simp [rowOf, rowsL] at d1; omega) ok hk hf hz hl hw (hg.st.top 1).wf (r3 e) _
  · rw [show methOf x.ins.op = 159 by rw [e]; rfl]
    rw [show x.does c z x.ins = Pg.began { x with tx := x.tx.commit c z.hs.length } c z by unfold Pg.does; rw [if_neg (by omega), if_neg (by omega), if_neg (by omega), if_pos e]]
    have hi := wrong_in r1 (.inr (.inr (.inl e)))
    exact h.commit_in hi (in_two hu hi) hx e ok (by omega) hf hz hl h8 hw _
  · rw [show methOf x.ins.op = 160 by rw [e]; rfl]
    rw [show x.does c z x.ins = Pg.began { x with tx := x.tx.abort 165 } c z by unfold Pg.does; rw [if_neg (by omega), if_neg (by omega), if_neg (by omega), if_neg (by omega), if_pos e]]
    have hi := wrong_in r1 (.inr (.inr (.inr e)))
    exact h.abort_in hi (in_two hu hi) hx e ok (by omega) hf hz hw _
  · rw [show methOf x.ins.op = 161 by rw [e]; rfl]
    rw [does_plain (by omega), plain_21 e]
    rw [e] at d1 d2 hmay
    have hl1 : 0 < x.fm.st.length := by simp [rowOf, rowsL] at d1; omega
    cases hi : x.inside
    · rw [if_neg (by simp)]
      exact h.tell_out hi hl1 p0 p1 (by omega) _
    · rw [if_pos rfl]
      exact h.tell_in hi hl1 p0 p1 (by omega) _
  · rw [show methOf x.ins.op = 162 by rw [e]; rfl]
    rw [show x.does c z x.ins = ⟨x.ends 0, z, 1⟩ by unfold Pg.does; rw [if_neg (by omega), if_neg (by omega), if_neg (by omega), if_neg (by omega), if_neg (by omega), if_pos e]]
    have hi := wrong_out r1 (.inr e)
    exact h.halt_out hi (out_idle hu hi) _
/-- What is refused, the depth being right. -/
theorem PH.meth_no (h : PH o c A X R z x w) (hd : x.dn = false) (hu : x.under = false) {n k : Nat} (hx : x.fit c n k) (hg : x.rng) (ok : z.ok c k) (hk : k ≤ 800000000) (hf : c.fits = true) (hz : z.hs.length = n) (hl : (n : Int) = c.sl) (hw : WsOk z.ws) (d1 : (rowOf x.ins.op).pops ≤ (x.fm.st.length : Int)) (d2 : (x.fm.st.length : Int) - (rowOf x.ins.op).pops + (rowOf x.ins.op).pushes ≤ 32) (hr : x.refuses c x.ins ≠ 0) :
    16 ≤ x.ins.op ∧ Calls Tryz.prog (methOf x.ins.op) #[.pointer (some ⟨X, 0, none⟩), .int .i64 x.ins.a] w fun r w' => r = boom (x.refuses c x.ins) ∧ PH o c A X R z x w' := by
  have hw0 : wrongM x.ins.op x.fm.st.length x.inside = if x.ins.op = 16 ∧ x.inside = true then 161 else if (x.ins.op = 17 ∨ x.ins.op = 18 ∨ x.ins.op = 19 ∨ x.ins.op = 20) ∧ x.inside = false then 162 else if x.ins.op = 22 ∧ x.inside = true then 164 else 0 := by
    unfold wrongM
    rw [if_neg (by omega)]
  by_cases e16 : x.ins.op = 16 ∧ x.inside = true
  · have hv : x.refuses c x.ins = 161 := by unfold Pg.refuses; rw [hw0, if_pos e16, if_pos (by decide)]
    rw [hv]
    refine ⟨by omega, ?_⟩
    rw [show methOf x.ins.op = 156 by rw [e16.1]; rfl]
    exact h.begin_in e16.2 _
  rw [if_neg e16] at hw0
  by_cases e17 : (x.ins.op = 17 ∨ x.ins.op = 18 ∨ x.ins.op = 19 ∨ x.ins.op = 20) ∧ x.inside = false
  · have hv : x.refuses c x.ins = 162 := by unfold Pg.refuses; rw [hw0, if_pos e17, if_pos (by decide)]
    rw [hv]
    refine ⟨by omega, ?_⟩
    rcases e17.1 with e | e | e | e
    · rw [show methOf x.ins.op = 157 by rw [e]; rfl]; exact h.load_out e17.2 _
    · rw [show methOf x.ins.op = 158 by rw [e]; rfl]; exact h.store_out e17.2 _
    · rw [show methOf x.ins.op = 159 by rw [e]; rfl]; exact h.commit_out e17.2 _
    · rw [show methOf x.ins.op = 160 by rw [e]; rfl]; exact h.abort_out e17.2 _
  rw [if_neg e17] at hw0
  by_cases e22 : x.ins.op = 22 ∧ x.inside = true
  · have hv : x.refuses c x.ins = 164 := by unfold Pg.refuses; rw [hw0, if_pos e22, if_pos (by decide)]
    rw [hv]
    refine ⟨by omega, ?_⟩
    rw [show methOf x.ins.op = 162 by rw [e22.1]; rfl]
    exact h.halt_in e22.2 _
  rw [if_neg e22] at hw0
  have hrr : x.refuses c x.ins = if x.ins.op = 17 ∧ x.tx.readE c (x.cell 0) ≠ 0 then (if x.tx.readE c (x.cell 0) = 2 then 163 else x.tx.readE c (x.cell 0)) else if x.ins.op = 18 ∧ x.tx.writeE c (x.cell 1) ≠ 0 then (if x.tx.writeE c (x.cell 1) = 2 then 163 else x.tx.writeE c (x.cell 1)) else 0 := by
    unfold Pg.refuses
    rw [hw0, if_neg (by decide)]
  by_cases f17 : x.ins.op = 17 ∧ x.tx.readE c (x.cell 0) ≠ 0
  · rw [if_pos f17] at hrr
    rw [hrr]
    have hi : x.inside = true := by
      cases e : x.inside
      · exact absurd ⟨.inl f17.1, e⟩ e17
      · rfl
    refine ⟨by omega, ?_⟩
    rw [f17.1] at d1
    rw [show methOf x.ins.op = 157 by rw [f17.1]; rfl]
    exact h.load_no hi (in_two hu hi) hx f17.1 (by simp [rowOf, rowsL] at d1; omega) ok hk hf hz hl hw (hg.st.top 0).wf f17.2 _
  rw [if_neg f17] at hrr
  by_cases f18 : x.ins.op = 18 ∧ x.tx.writeE c (x.cell 1) ≠ 0
  · rw [if_pos f18] at hrr
    rw [hrr]
    have hi : x.inside = true := by
      cases e : x.inside
      · exact absurd ⟨.inr (.inl f18.1), e⟩ e17
      · rfl
    refine ⟨by omega, ?_⟩
    rw [f18.1] at d1
    rw [show methOf x.ins.op = 158 by rw [f18.1]; rfl]
    exact h.store_no hi (in_two hu hi) hx f18.1 (by simp [rowOf, rowsL] at d1; omega) ok hk hf hz hl hw (hg.st.top 1).wf f18.2 _
  rw [if_neg f18] at hrr
  exact absurd hrr hr
theorem deep_refuses (h : (x.fm.st.length : Int) < (rowOf x.ins.op).pops ∨ 32 < (x.fm.st.length : Int) - (rowOf x.ins.op).pops + (rowOf x.ins.op).pushes) : x.refuses c x.ins = 160 := by
  have e : wrongM x.ins.op x.fm.st.length x.inside = 160 := by unfold wrongM; rw [if_pos h]
  unfold Pg.refuses
  rw [e, if_pos (by decide)]
/-- An instruction, done or refused. -/
theorem PH.instruct_ok (h : PH o c A X R z x w) (hd : x.dn = false) (hu : x.under = false) {n k : Nat} (hx : x.fit c n k) (hg : x.rng) (ok : z.ok c k) (hk : k ≤ 800000000) (hf : c.fits = true) (hz : z.hs.length = n) (hl : (n : Int) = c.sl) (h1 : 1 ≤ n) (h8 : n ≤ 8) (hw : WsOk z.ws) (hs : 1 ≤ z.s.st) (hr : x.refuses c x.ins = 0) :
    Calls Tryz.prog 68 #[.pointer (some ⟨X, 0, none⟩)] w fun r w' => r = .returned (.int .i64 (x.does c z x.ins).a) ∧ PH o c A X R (x.does c z x.ins).z (x.does c z x.ins).x w' := by
  obtain ⟨r1, r2, r3⟩ := refuses_zero x c _ hr
  obtain ⟨d1, d2⟩ := wrong_depth r1
  by_cases hp : x.fm.pl < x.li.length
  · exact h.instruct_ret_at hx.co hp d1 d2 (fun W R' hW => hW.meth hd hu hx hg ok hk hf hz hl h1 h8 hw hs hr)
  · exact h.instruct_ret_end hx.co hp d1 d2 (fun W R' hW => hW.meth hd hu hx hg ok hk hf hz hl h1 h8 hw hs hr)
theorem PH.instruct_no (h : PH o c A X R z x w) (hd : x.dn = false) (hu : x.under = false) {n k : Nat} (hx : x.fit c n k) (hg : x.rng) (ok : z.ok c k) (hk : k ≤ 800000000) (hf : c.fits = true) (hz : z.hs.length = n) (hl : (n : Int) = c.sl) (hw : WsOk z.ws) (hr : x.refuses c x.ins ≠ 0) :
    Calls Tryz.prog 68 #[.pointer (some ⟨X, 0, none⟩)] w fun r w' => r = boom (x.refuses c x.ins) ∧ PH o c A X R z x w' := by
  by_cases hdp : (x.fm.st.length : Int) < (rowOf x.ins.op).pops ∨ 32 < (x.fm.st.length : Int) - (rowOf x.ins.op).pops + (rowOf x.ins.op).pushes
  · rw [deep_refuses hdp]
    by_cases hp : x.fm.pl < x.li.length
    · exact h.instruct_deep_at hx.co hp hdp
    · exact h.instruct_deep_end hx.co hp hdp
  · have d1 : (rowOf x.ins.op).pops ≤ (x.fm.st.length : Int) := by omega
    have d2 : (x.fm.st.length : Int) - (rowOf x.ins.op).pops + (rowOf x.ins.op).pushes ≤ 32 := by omega
    have hup := (h.meth_no hd hu hx hg ok hk hf hz hl hw d1 d2 hr).1
    by_cases hp : x.fm.pl < x.li.length
    · exact h.instruct_pan_at hx.co hp hup d1 d2 (fun W R' hW => (hW.meth_no hd hu hx hg ok hk hf hz hl hw d1 d2 hr).2)
    · exact h.instruct_pan_end hx.co hp d1 d2 (fun W R' hW => (hW.meth_no hd hu hx hg ok hk hf hz hl hw d1 d2 hr).2)

end
end Go.Proofs.YthbcbjkgjgmegaaGreat
