/- Four threads in memory: a move; how they are made. How four threads are made. -/
import Derived.Test.YtnchfomoaonbkaaGreatTxJ
namespace Go.Proofs.YtnchfomoaonbkaaGreat
open Go.RowKit
set_option linter.unusedVariables false
set_option linter.unusedSimpArgs false
attribute [local go_sem ↓] Go.wp_at_zero Go.wp_at_succ
def gpC (A : Ad) (Ps : Nat → TA) (g : Gp) : Array Value :=
  #[spp A, .pointer (some ⟨(Ps 0).T, 0, none⟩), .pointer (some ⟨(Ps 1).T, 0, none⟩), .pointer (some ⟨(Ps 2).T, 0, none⟩), .pointer (some ⟨(Ps 3).T, 0, none⟩), .int .i64 (g.sm 0), .int .i64 (g.sm 1), .int .i64 (g.sm 2), .int .i64 (g.sm 3), .int .i64 g.st]
def gF (c : Cfg) (A : Ad) (Ps : Nat → TA) (g : Gp) : Nat → It := fun j => txI c A (Ps j) (g.ts j)
def gpL (c : Cfg) (A : Ad) (G : Nat) (Ps : Nat → TA) (g : Gp) (v u : Value) : List It :=
  [boxI G (gpC A Ps g) 98, gF c A Ps g 0, gF c A Ps g 1, gF c A Ps g 2, gF c A Ps g 3, spI A c g.z v u]
def oth (F : Nat → It) (k : Nat) : List It := if k = 0 then [F 1, F 2, F 3] else if k = 1 then [F 0, F 2, F 3] else if k = 2 then [F 0, F 1, F 3] else [F 0, F 1, F 2]
theorem k_cases {k : Nat} (h : k < 4) : k = 0 ∨ k = 1 ∨ k = 2 ∨ k = 3 := by omega
theorem oth_upd {F F' : Nat → It} {k : Nat} (h : k < 4) (he : ∀ j, j ≠ k → F' j = F j) : oth F' k = oth F k := by
  rcases k_cases h with rfl | rfl | rfl | rfl
  · simp only [oth, if_true]; rw [he 1 (by decide), he 2 (by decide), he 3 (by decide)]
  · simp only [oth]; rw [he 0 (by decide), he 2 (by decide), he 3 (by decide)]; rfl
  · simp only [oth]; rw [he 0 (by decide), he 1 (by decide), he 3 (by decide)]; rfl
  · simp only [oth]; rw [he 0 (by decide), he 1 (by decide), he 2 (by decide)]; rfl
theorem gPick {k : Nat} (h : k < 4) (B S : It) (F : Nat → It) (R : List It) : (B :: F 0 :: F 1 :: F 2 :: F 3 :: S :: R).Perm (F k :: S :: B :: (oth F k ++ R)) := by
  refine (List.perm_middle (l₁ := [B, F 0, F 1, F 2, F 3]) (a := S) (l₂ := R)).trans ?_
  rcases k_cases h with rfl | rfl | rfl | rfl
  · exact List.perm_middle (l₁ := [S, B]) (a := F 0) (l₂ := F 1 :: F 2 :: F 3 :: R)
  · exact List.perm_middle (l₁ := [S, B, F 0]) (a := F 1) (l₂ := F 2 :: F 3 :: R)
  · exact List.perm_middle (l₁ := [S, B, F 0, F 1]) (a := F 2) (l₂ := F 3 :: R)
  · exact List.perm_middle (l₁ := [S, B, F 0, F 1, F 2]) (a := F 3) (l₂ := R)
section
variable {o w : World} {its R : List It} {A : Ad} {c : Cfg} {g : Gp} {v u : Value} {Ps : Nat → TA} {G : Nat}
theorem gpC_t {k : Nat} (h : k < 4) : (gpC A Ps g)[1 + k]? = some (.pointer (some ⟨(Ps k).T, 0, none⟩)) := by
  rcases k_cases h with rfl | rfl | rfl | rfl <;> rfl
theorem gpC_s {k : Nat} (h : k < 4) : (gpC A Ps g)[5 + k]? = some (.int .i64 (g.sm k)) := by
  rcases k_cases h with rfl | rfl | rfl | rfl <;> rfl
theorem gpC_set {k : Nat} (h : k < 4) {P : TA} (hP : P.T = (Ps k).T) (a b : Int) (z : SSt) (ts : Nat → Tt) : gset (gpC A Ps g) k a b = gpC A (upd Ps k P) ⟨z, ts, upd g.sm k b, a⟩ := by
  rcases k_cases h with rfl | rfl | rfl | rfl <;> simp [gset, gpC, upd, hP]
/-- One thread and the space, ahead of the others. -/
theorem St.pick (h : St o (gpL c A G Ps g v u ++ R) w) {k : Nat} (hk : k < 4) : St o (txL c A (Ps k) (g.ts k) ++ spI A c g.z v u :: boxI G (gpC A Ps g) 98 :: (oth (gF c A Ps g) k ++ R)) w :=
  St.split (l := txL c A (Ps k) (g.ts k)) (h.perm (gPick hk _ _ (gF c A Ps g) R))
theorem St.back {P : TA} {x : Tt} {z : SSt} {v' u' : Value} {k : Nat} (hk : k < 4) {a b : Int} (hP : P.T = (Ps k).T) (h : St o (txL c A P x ++ spI A c z v' u' :: boxI G (gset (gpC A Ps g) k a b) 98 :: (oth (gF c A Ps g) k ++ R)) w) : St o (gpL c A G (upd Ps k P) ⟨z, upd g.ts k x, upd g.sm k b, a⟩ v' u' ++ R) w := by
  have h1 : St o (txI c A P x :: spI A c z v' u' :: boxI G (gset (gpC A Ps g) k a b) 98 :: (oth (gF c A Ps g) k ++ R)) w := h.unite
  have e1 : gF c A (upd Ps k P) ⟨z, upd g.ts k x, upd g.sm k b, a⟩ k = txI c A P x := by simp [gF, upd_same]
  have e2 : oth (gF c A (upd Ps k P) ⟨z, upd g.ts k x, upd g.sm k b, a⟩) k = oth (gF c A Ps g) k := oth_upd hk (fun j hj => by simp [gF, upd_ne _ hj])
  rw [gpC_set hk hP a b z (upd g.ts k x), ← e1, ← e2] at h1
  exact h1.perm (gPick hk _ _ _ R).symm

theorem gGoes (h : St o (gpL c A G Ps g v u ++ R) w) (hJ : ∀ j y, (g.ts j).dg = .com y → (Ps j).B.J = (Ps j).J) {n : Nat} (hk : g.ok c n) (hn : n ≤ 800000000) (m : Mv) :
    Calls Tryz.prog 31 #[.pointer (some ⟨G, 0, none⟩), m.val] w fun e w' => e = .returned (.int .i64 (g.ans c m)) ∧ ∃ Ps' v' u', (∀ j, (Ps' j).T = (Ps j).T) ∧ (∀ j y, ((g.goes c m).ts j).dg = .com y → (Ps' j).B.J = (Ps' j).J) ∧ St o (gpL c A G Ps' (g.goes c m) v' u' ++ R) w' := by
  have hlt := m.k_lt
  have hs := hk.st
  have hs2 := hk.sk
  refine gGoes0 (h.pick hlt) hlt rfl (gpC_t hlt) (gpC_s hlt) rfl m (by unfold Mv.k; omega) hk.z (by omega) (hk.ts _ hlt) hk.f hk.ws (hJ m.k) hs (by omega) (hk.sm _ hlt) ?_
  intro P' v' u' w' hT hJ' s
  have e : agn (g.ts m.k) (g.sm m.k) g.st = g.again m.k := rfl
  rw [e] at s hJ' ⊢
  refine ⟨rfl, upd Ps m.k P', v', u', ?_, ?_, St.back hlt hT s⟩
  · intro j
    by_cases ej : j = m.k
    · subst ej; rw [upd_same]; exact hT
    · rw [upd_ne _ ej]
  · intro j y ey
    by_cases ej : j = m.k
    · subst ej
      rw [upd_same]
      refine hJ' y ?_
      have : (g.goes c m).ts m.k = (g.preT c m).next c (g.preZ c m) := upd_same _ _ _
      rw [this] at ey
      exact ey
    · rw [upd_ne _ ej]
      have : (g.goes c m).ts j = g.ts j := upd_ne _ ej _
      rw [this] at ey
      exact hJ j y ey
end
end Go.Proofs.YtnchfomoaonbkaaGreat

namespace Go.Proofs.YtnchfomoaonbkaaGreat
open Go.RowKit
set_option linter.unusedVariables false
set_option linter.unusedSimpArgs false
attribute [local go_sem ↓] Go.wp_at_zero Go.wp_at_succ
set_option maxRecDepth 100000 in
theorem gMeet_out (c : Cfg) (hc : c.fits = false) (q : Value) (w : World) :
    Calls Tryz.prog 29 #[c.val, q] w fun e w' => e = .returned (.tuple #[.pointer none, .bool false]) ∧ Kept (fun _ => False) w w' := by
  have h0 := (St.nil w).box #[.int .i64 c.ce, .int .i64 c.sl, .int .i64 c.bi, .int .i64 c.ta, .int .i64 c.ba, .int .i64 c.de] 23
  have hq := spNew_out c hc (w.alloc (.cells #[.int .i64 c.ce, .int .i64 c.sl, .int .i64 c.bi, .int .i64 c.ta, .int .i64 c.ba, .int .i64 c.de] 23))
  unfold Cfg.val at hq ⊢
  go_enter Tryz.func29, Tryz.ntmps29
  go_upto_region 1 with fail
  generalize w.alloc (.cells #[.int .i64 c.ce, .int .i64 c.sl, .int .i64 c.bi, .int .i64 c.ta, .int .i64 c.ba, .int .i64 c.de] 23) = W0 at *
  generalize w.heap.size = M at *
  have c0 : W0.cell? ⟨M, 0, none⟩ = some (.int .i64 c.ce) := h0.cell 0 rfl 0
  have c1 : W0.cell? ⟨M, 1, none⟩ = some (.int .i64 c.sl) := h0.cell 0 rfl 1
  have c2 : W0.cell? ⟨M, 2, none⟩ = some (.int .i64 c.bi) := h0.cell 0 rfl 2
  have c3 : W0.cell? ⟨M, 3, none⟩ = some (.int .i64 c.ta) := h0.cell 0 rfl 3
  have c4 : W0.cell? ⟨M, 4, none⟩ = some (.int .i64 c.ba) := h0.cell 0 rfl 4
  have c5 : W0.cell? ⟨M, 5, none⟩ = some (.int .i64 c.de) := h0.cell 0 rfl 5
  have HS := hid h0
  clear h0 hc
  go_wp2_with fail
  refine hq.mono ?_
  rintro e w1 ⟨rfl, k1⟩
  have HK := hid (HS.out.calm k1).same
  clear hq HS k1 c0 c1 c2 c3 c4 c5
  go_wp2
  go_ret2
  exact ⟨rfl, HK.out⟩

def tp (j : Nat) (Ps : Nat → TA) (i : Nat) : Value := if i < j then .pointer (some ⟨(Ps i).T, 0, none⟩) else .pointer none
def arr (A : Ad) (j : Nat) (Ps : Nat → TA) : Array Value := #[spp A, tp j Ps 0, tp j Ps 1, tp j Ps 2, tp j Ps 3, .int .i64 0, .int .i64 0, .int .i64 0, .int .i64 0, .int .i64 0]
theorem arr_set (A : Ad) {j : Nat} (hj : j < 4) (Ps : Nat → TA) (P : TA) : (arr A j Ps).setIfInBounds (1 + j) (.pointer (some ⟨P.T, 0, none⟩)) = arr A (j + 1) (upd Ps j P) := by
  rcases k_cases hj with rfl | rfl | rfl | rfl <;> simp [arr, tp, upd]
theorem arr_at (A : Ad) {j : Nat} (hj : j < 4) (Ps : Nat → TA) : (arr A j Ps)[1 + j]? = some (.pointer none) := by
  rcases k_cases hj with rfl | rfl | rfl | rfl <;> simp [arr, tp]
def lst (c : Cfg) (A : Ad) (Ps : Nat → TA) : Nat → List It
  | 0 => []
  | j + 1 => txI c A (Ps j) (Tt.new (j + 1)) :: lst c A Ps j
theorem lst_upd (c : Cfg) (A : Ad) (Ps : Nat → TA) (P : TA) (k : Nat) : ∀ j, j ≤ k → lst c A (upd Ps k P) j = lst c A Ps j
  | 0, _ => rfl
  | j + 1, h => by
    rw [lst, lst, lst_upd c A Ps P k j (by omega), upd_ne _ (by omega)]
set_option maxRecDepth 100000 in
set_option maxHeartbeats 1000000 in
theorem gMeet_st (c : Cfg) (hf : c.fits = true) {zs : List Int} {la : Option Addr} {n lc : Nat} (w : World) (hl : NumsIn w la n zs) (hn : n ≤ 17592186044416) :
    Calls Tryz.prog 29 #[c.val, .slice la n lc] w fun e w' => ∃ G A Ps v u, e = .returned (.tuple #[.pointer (some ⟨G, 0, none⟩), .bool true]) ∧ St w (gpL c A G Ps (Gp.new c zs) v u) w' := by
  have h0 := (St.nil w).box #[.int .i64 c.ce, .int .i64 c.sl, .int .i64 c.bi, .int .i64 c.ta, .int .i64 c.ba, .int .i64 c.de] 23
  have hq := spNew_st h0 c hf
  have HL := hid hl
  unfold Cfg.val at hq ⊢
  clear hl
  go_enter Tryz.func29, Tryz.ntmps29
  go_upto_region 1 with fail
  generalize w.alloc (.cells #[.int .i64 c.ce, .int .i64 c.sl, .int .i64 c.bi, .int .i64 c.ta, .int .i64 c.ba, .int .i64 c.de] 23) = W0 at *
  generalize w.heap.size = M at *
  have c0 : W0.cell? ⟨M, 0, none⟩ = some (.int .i64 c.ce) := h0.cell 0 rfl 0
  have c1 : W0.cell? ⟨M, 1, none⟩ = some (.int .i64 c.sl) := h0.cell 0 rfl 1
  have c2 : W0.cell? ⟨M, 2, none⟩ = some (.int .i64 c.bi) := h0.cell 0 rfl 2
  have c3 : W0.cell? ⟨M, 3, none⟩ = some (.int .i64 c.ta) := h0.cell 0 rfl 3
  have c4 : W0.cell? ⟨M, 4, none⟩ = some (.int .i64 c.ba) := h0.cell 0 rfl 4
  have c5 : W0.cell? ⟨M, 5, none⟩ = some (.int .i64 c.de) := h0.cell 0 rfl 5
  clear h0
  go_wp2_with fail
  refine hq.mono ?_
  rintro e w1 ⟨A, rfl, s1⟩
  clear hq c0 c1 c2 c3 c4 c5
  have s2 : St w [spI A c (SSt.zero c) (.slice none 0 0) (.slice none 0 0)] w1 := St.popAt (pre := [_]) s1
  clear s1
  have hg := spGate s2 0 rfl
  have hs := spSlots s2 0 rfl
  have hF := spFill s2 0 rfl (SSt.ok_zero c hf 0) (by omega) (lc := lc) (HL.out.kept s2.same) hn
  unfold spp at hg hs hF ⊢
  clear s2
  go_wp2_with (first | (go_at_call 33; refine hg.mono ?_; rintro e wq ⟨rfl, rfl⟩) | (go_at_call 74; refine hs.mono ?_; rintro e wq ⟨rfl, rfl⟩))
  refine hF.mono ?_
  rintro e w2 ⟨rfl, s3⟩
  clear hF hg hs
  have s3 : St w [spI A c (Gp.new c zs).z (.slice none 0 0) (.slice none 0 0)] w2 := s3
  have s4 := (s3.box #[.pointer (some ⟨A.sp, 0, none⟩), .pointer none, .pointer none, .pointer none, .pointer none, .int .i64 0, .int .i64 0, .int .i64 0, .int .i64 0, .int .i64 0] 98).swap
  clear s3
  go_upto_region 6 with fail
  generalize w2.alloc (.cells #[.pointer (some ⟨A.sp, 0, none⟩), .pointer none, .pointer none, .pointer none, .pointer none, .int .i64 0, .int .i64 0, .int .i64 0, .int .i64 0, .int .i64 0] 98) = w3 at *
  generalize w2.heap.size = G at *
  obtain ⟨Z, hZ⟩ : ∃ Z, Z = (Gp.new c zs).z := ⟨_, rfl⟩
  rw [← hZ] at s4
  have HZ := hid hZ
  clear hZ
  have HS : Hid (∃ Ps, St w (spI A c Z (.slice none 0 0) (.slice none 0 0) :: boxI G (arr A 0 Ps) 98 :: (lst c A Ps 0)) w3) := ⟨fun _ => ⟨0, 0, 0, 0, 0, 0, 0, 0, 0, .nilFunc, .nilFunc, .nilFunc, .nilFunc, .nilFunc, .nilFunc, .nilFunc, ⟨0, 0, 0, 0, 0⟩⟩, s4⟩
  clear s4
  have HF := hid hf
  go_wp2_with fail
  go_loopw [9, 10, 11, 39, 40, 41, 42, 43, 44, 45, 46, 47, 48, 49, 50, 51, 52, 53, 54, 55, 56, 57, 58, 59, 60, 61] (fun i _ _ _ _ _ _ _ _ _ _ _ _ _ _ _ _ _ _ _ _ _ _ _ _ _ wr => ∃ j : Nat, i = .int .i64 j ∧ j ≤ 4 ∧ Hid (∃ Ps, St w (spI A c Z (.slice none 0 0) (.slice none 0 0) :: boxI G (arr A j Ps) 98 :: (lst c A Ps j)) wr)) (fun i _ _ _ _ _ _ _ _ _ _ _ _ _ _ _ _ _ _ _ _ _ _ _ _ _ _ => 4 - (intOf i).toNat)
  case atStart => exact ⟨0, rfl, by omega, HS⟩
  case round =>
    clear HS
    obtain ⟨j, rfl, hj, HR⟩ := hrel
    by_cases hlt : j < 4
    · have h1 : (j : Int) < 4 := by omega
      have h2 : (0 : Int) ≤ (j : Int) := by omega
      obtain ⟨Ps, sj⟩ := HR.out
      have hq := tNew_st (th := (j : Int) + 1) sj 0 rfl HF.out (by omega) (by omega)
      unfold spp at hq
      clear HR sj
      go_wp2_with fail
      refine hq.mono ?_
      rintro e w5 ⟨P, rfl, s5⟩
      clear hq
      have cj : w5.cell? ⟨G, 1 + j, none⟩ = some (.pointer none) := (s5.cell 2 rfl (1 + j)).trans (arr_at A hlt Ps)
      have fj : w5.frozen? ⟨G, 1 + j, none⟩ = false := s5.frozen 2 rfl (1 + j)
      have H6 : Hid (∃ Ps, St w (spI A c Z (.slice none 0 0) (.slice none 0 0) :: boxI G (arr A (j + 1) Ps) 98 :: (lst c A Ps (j + 1))) (w5.setCell ⟨G, 1 + j, none⟩ (.pointer (some ⟨P.T, 0, none⟩)))) := by
        refine ⟨upd Ps j P, ?_⟩
        have s6 := s5.write 2 rfl (1 + j) (.pointer (some ⟨P.T, 0, none⟩))
        rw [arr_set A hlt] at s6
        rw [lst, upd_same, lst_upd c A Ps P j j (Nat.le_refl _)]
        exact (s6.perm (List.perm_middle (l₁ := [spI A c Z (.slice none 0 0) (.slice none 0 0), boxI G (arr A (j + 1) (upd Ps j P)) 98]) (l₂ := lst c A Ps j) (a := txI c A P (Tt.new (j + 1)))).symm)
      clear s5
      go_wp2_with fail
      go_roundw
      case rel => exact ⟨j + 1, by go_num, by omega, H6⟩
      case measure => simp [intOf]; omega
    · obtain rfl : j = 4 := by omega
      obtain ⟨Ps, sj⟩ := HR.out
      have H7 : Hid (St w (gpL c A G Ps (Gp.new c zs) (.slice none 0 0) (.slice none 0 0)) wr) := by
        have q : St w (spI A c Z (.slice none 0 0) (.slice none 0 0) :: boxI G (arr A 4 Ps) 98 :: [txI c A (Ps 3) (Tt.new 4), txI c A (Ps 2) (Tt.new 3), txI c A (Ps 1) (Tt.new 2), txI c A (Ps 0) (Tt.new 1)]) wr := sj
        have e1 : arr A 4 Ps = gpC A Ps (Gp.new c zs) := rfl
        rw [e1, HZ.out] at q
        have p : [spI A c (Gp.new c zs).z (.slice none 0 0) (.slice none 0 0), boxI G (gpC A Ps (Gp.new c zs)) 98, txI c A (Ps 3) (Tt.new 4), txI c A (Ps 2) (Tt.new 3), txI c A (Ps 1) (Tt.new 2), txI c A (Ps 0) (Tt.new 1)].Perm [boxI G (gpC A Ps (Gp.new c zs)) 98, txI c A (Ps 0) (Tt.new 1), txI c A (Ps 1) (Tt.new 2), txI c A (Ps 2) (Tt.new 3), txI c A (Ps 3) (Tt.new 4), spI A c (Gp.new c zs).z (.slice none 0 0) (.slice none 0 0)] := by
          refine (List.Perm.swap _ _ _).trans (List.Perm.cons _ ?_)
          exact (List.reverse_perm [spI A c (Gp.new c zs).z (.slice none 0 0) (.slice none 0 0), txI c A (Ps 3) (Tt.new 4), txI c A (Ps 2) (Tt.new 3), txI c A (Ps 1) (Tt.new 2), txI c A (Ps 0) (Tt.new 1)]).symm
        exact q.perm p
      clear HR sj
      go_wp2
      go_ret2
      exact ⟨G, A, Ps, _, _, rfl, H7.out⟩
end Go.Proofs.YtnchfomoaonbkaaGreat
