/- New, State, Done. State and Done. -/
import Derived.Test.YthbcbjkgjgmegaaGreatPgL
import Derived.Test.YthbcbjkgjgmegaaGreatTb
namespace Go.Proofs.YthbcbjkgjgmegaaGreat
open Go.RowKit
set_option linter.unusedVariables false
set_option linter.unusedSimpArgs false
attribute [local go_sem ↓] Go.wp_at_zero Go.wp_at_succ
theorem Tryz.infoIns : (Tryz.prog.info? 79).map (fun i => (i.zero, i.size, i.bytes)) = some (some (.agg #[.int .i64 0, .int .i64 0]), 2, 16) := by kernel_rfl
set_option maxRecDepth 100000 in
set_option maxHeartbeats 1000000 in
theorem cloneIns (la : Option Addr) (n lc : Nat) (zs : List Ins) (w : World) (hL : IIn w la n zs) (hN : la = none → n = 0 ∧ lc = 0) (hb : n * 16 ≤ 140737488355328) :
    Calls Tryz.prog 40 #[.slice la n lc] w fun e w' => ∃ v', e = .returned v' ∧ w'.ownsRow w.heap.size 79 2 v' zs.length (insCells zs) ∧ Kept (fun _ => False) w w' := by
  obtain ⟨i0, hi0, hz0, hz1, hz2⟩ := info_parts Tryz.infoIns
  have hE : ∀ a n c w, (binOp .eql 25 (.slice a n c) (.slice none 0 0)).run Tryz.prog w = .ok (.bool a.isNone) w := fun a n c w => Lib.run_eql_slice_nil w 25 79 a n c 0 0 Tryz.underlying25
  cases la with
  | none =>
    obtain ⟨rfl, rfl⟩ := hN rfl
    have hl : zs = [] := List.length_eq_zero_iff.1 hL.1.symm
    subst hl
    clear hL hN
    go_enter Tryz.func40, Tryz.ntmps40
    go_wp2
    go_ret
    exact ⟨_, rfl, World.ownsRow_nil _ _ _ _, Kept.refl _ _⟩
  | some ad =>
    have hcells : ∀ j u, (insCells zs)[j]? = some u → (w.alloc (.cells #[] 79)).cell? (ad.add j) = some u := by
      intro j u hu
      have hj := (List.getElem?_eq_some_iff.1 hu).1
      rw [insCells_length] at hj
      obtain ⟨g, off, e, hc⟩ := (hL.kept (kept_alloc w (.cells #[] 79))).2 (by have := hL.1; omega)
      simp only [Option.some.injEq] at e
      subst e
      rw [Addr.add_lit]
      exact hc j u hu
    have hlen : (insCells zs).length = n * 2 := by rw [insCells_length, ← hL.1]
    have hml : n ≤ maxLen := by unfold maxLen; omega
    have HL : Hid (n = zs.length) := hL.1
    clear hL hN
    go_enter Tryz.func40, Tryz.ntmps40
    go_wp2_with (at_builtin; refine wpList_append_own_at _ rfl (.tmp 5) (.tmp 6) 25 rfl w.heap.size 79 i0 _ 2 16 Tryz.underlying25 hi0 hz0 hz1 hz2 rfl (by omega) (.slice (some ⟨w.heap.size, 0, none⟩) 0 0) 0 [] rfl (World.ownsRow_made w #[] 0 (Nat.le_refl _) (Nat.zero_le _) rfl) ad n lc (insCells zs) rfl hlen hcells (insCells_one zs) (by omega) (by omega) (by simp) ?_; intro v' w1 hown' hgrow hnil hat)
    go_ret
    refine ⟨_, rfl, by rw [← HL.out]; simpa using hown', ((Kept.refl _ w).alloc _).grown hgrow (fun k e => ?_)⟩
    right
    simp [Value.ownBlock] at e
    omega

section
variable {o w : World} {its R : List It} {A : Ad} {c : Cfg} {z : SSt} {v u : Value} {Q : PA} {x : Pg} {X : Nat}
theorem pNew_nil (th : Int) (lv : Value) (w : World) : Calls Tryz.prog 12 #[.pointer none, .int .i64 th, lv] w fun r w' => r = .returned (.tuple #[.pointer none, .int .i64 1]) ∧ w' = w := by
  go_enter Tryz.func12, Tryz.ntmps12
  go_wp2
  go_ret2
  exact ⟨rfl, rfl⟩
set_option maxRecDepth 100000 in
theorem pNew_out (k : Nat) (th : Int) (hn : ¬ (1 ≤ th ∧ th ≤ 8)) (lv : Value) (w : World) : Calls Tryz.prog 12 #[.pointer (some ⟨k, 0, none⟩), .int .i64 th, lv] w fun r w' => r = .returned (.tuple #[.pointer none, .int .i64 1]) ∧ w' = w := by
  have hq := tNew_out (.pointer (some ⟨k, 0, none⟩)) th hn w
  clear hn
  go_enter Tryz.func12, Tryz.ntmps12
  go_wp2_with fail
  refine hq.mono ?_
  rintro r w1 ⟨rfl, rfl⟩
  clear hq
  go_wp2
  go_ret2
  exact ⟨rfl, rfl⟩
set_option maxRecDepth 100000 in
theorem pNew_bad (h : St o (spI A c z v u :: R) w) (hf : c.fits = true) {th : Int} (h1 : 1 ≤ th) (h8 : th ≤ 8) {la : Option Addr} {n lc : Nat} {l : List Ins} (hL : ∀ W pre, St o (pre ++ R) W → IIn W la n l) (hc : (checkM l).1 ≠ 0) : Calls Tryz.prog 12 #[spp A, .int .i64 th, .slice la n lc] w fun r w' => r = .returned (.tuple #[.pointer none, .int .i64 (checkM l).1]) ∧ St o (spI A c z v u :: R) w' := by
  have hq := tNew_st (th := th) h 0 rfl hf h1 h8
  have HL := hid hL
  have m0 : ((checkM l).1 != 0) = true := by simpa using hc
  obtain ⟨e1, he1⟩ : ∃ e1, e1 = (checkM l).1 := ⟨_, rfl⟩
  obtain ⟨e2, he2⟩ : ∃ e2, e2 = (checkM l).2 := ⟨_, rfl⟩
  have HE : Hid (e1 = (checkM l).1 ∧ e2 = (checkM l).2) := ⟨he1, he2⟩
  rw [← he1] at m0 ⊢
  clear h hL hc he1 he2 h1 h8
  unfold spp at hq ⊢
  go_enter Tryz.func12, Tryz.ntmps12
  go_wp2_with fail
  refine hq.mono ?_
  rintro r w1 ⟨P, rfl, s1⟩
  clear hq
  have hq := Check_any la n lc l w1 (HL.out w1 [_, _] s1)
  rw [← HE.out.1, ← HE.out.2] at hq
  go_wp2_with fail
  refine hq.mono ?_
  rintro r w2 ⟨rfl, k2⟩
  clear hq
  have H2 := hid (s1.calm k2).pop
  clear s1
  go_wp2
  go_ret2
  exact ⟨rfl, H2.out⟩
theorem St.noInts (h : St o its w) : St o (ownI 2 1 (.slice none 0 0) 0 [] :: its) w :=
  h.push _ (Kept.refl _ w) (World.ownsRow_nil w 0 2 1) (own_nodup (.slice none 0 0)) (fun b hb => by simp [ownI, Value.ownBlock] at hb)
theorem perm_new (j hh tt b l s : It) (T R : List It) : (j :: hh :: tt :: (T ++ b :: l :: s :: R)).Perm (b :: s :: j :: l :: hh :: tt :: (T ++ R)) := by
  have p0 : (T ++ b :: l :: s :: R).Perm (b :: l :: s :: (T ++ R)) := by
    have := (List.perm_append_comm (l₁ := T) (l₂ := [b, l, s])).append_right R
    simpa using this
  have p1 : (j :: hh :: tt :: b :: l :: s :: (T ++ R)).Perm (b :: j :: hh :: tt :: l :: s :: (T ++ R)) := List.perm_middle (l₁ := [j, hh, tt]) (a := b) (l₂ := l :: s :: (T ++ R))
  have p2 : (j :: hh :: tt :: l :: s :: (T ++ R)).Perm (s :: j :: hh :: tt :: l :: (T ++ R)) := List.perm_middle (l₁ := [j, hh, tt, l]) (a := s) (l₂ := T ++ R)
  have p3 : (hh :: tt :: l :: (T ++ R)).Perm (l :: hh :: tt :: (T ++ R)) := List.perm_middle (l₁ := [hh, tt]) (a := l) (l₂ := T ++ R)
  exact (((p0.cons tt).cons hh).cons j).trans (p1.trans ((p2.trans ((p3.cons j).cons s)).cons b))
theorem pgW_new (A : Ad) (X S : Nat) (lv : Value) (P : TA) (th : Int) (l : List Ins) : [.int .i64 0, .pointer (some ⟨S, 0, none⟩), .int .i64 0, .int .i64 0, .int .i64 0, .int .i64 0, .int .i64 0, .int .i64 0, .int .i64 0, .int .i64 0, .int .i64 0, .int .i64 0, .int .i64 0, .pointer none, .int .i64 0, .int .i64 0, .int .i64 0, .int .i64 0, .int .i64 0, .int .i64 0, .int .i64 0, .int .i64 0, .slice none 0 0, spp A, .pointer (some ⟨P.T, 0, none⟩), lv, .slice none 0 0, .bool false, .int .i64 0] = pgW A ⟨X, S, .slice none 0 0, 0, .slice none 0 0, lv, .slice none 0 0, .slice none 0 0, P⟩ (Pg.new th l) := by kernel_rfl
set_option maxRecDepth 100000 in
set_option maxHeartbeats 1000000 in
theorem pNew_ok (h : St o (spI A c z v u :: R) w) (hf : c.fits = true) {th : Int} (h1 : 1 ≤ th) (h8 : th ≤ 8) {la : Option Addr} {n lc : Nat} {l : List Ins} (hL : ∀ W pre, St o (pre ++ R) W → IIn W la n l) (hN : la = none → n = 0 ∧ lc = 0) (hc : (checkM l).1 = 0) : Calls Tryz.prog 12 #[spp A, .int .i64 th, .slice la n lc] w fun r w' => ∃ X, r = .returned (.tuple #[.pointer (some ⟨X, 0, none⟩), .int .i64 0]) ∧ PH o c A X R z (Pg.new th l) w' := by
  have hlen := (checkM_all hc).1
  have hn : n = l.length := (hL w [_] h).1
  have hq := tNew_st (th := th) h 0 rfl hf h1 h8
  have HL := hid hL
  obtain ⟨e2, he2⟩ : ∃ e2, e2 = (checkM l).2 := ⟨_, rfl⟩
  have HE : Hid ((checkM l).1 = 0 ∧ e2 = (checkM l).2) := ⟨hc, he2⟩
  have HN : Hid ((la = none → n = 0 ∧ lc = 0) ∧ n * 16 ≤ 140737488355328) := ⟨hN, by omega⟩
  clear h hL hc he2 h1 h8 hN hn hlen
  unfold spp at hq ⊢
  go_enter Tryz.func12, Tryz.ntmps12
  go_wp2_with fail
  refine hq.mono ?_
  rintro r w1 ⟨P, rfl, s1⟩
  clear hq
  have hq := Check_any la n lc l w1 (HL.out w1 [_, _] s1)
  rw [HE.out.1, ← HE.out.2] at hq
  go_wp2_with fail
  refine hq.mono ?_
  rintro r w2 ⟨rfl, k2⟩
  clear hq
  have s2 := s1.calm k2
  clear s1 k2
  have hq := kNew s2
  go_wp2_with fail
  refine hq.mono ?_
  rintro r w3 ⟨S, rfl, s3⟩
  clear hq s2
  have hq := cloneIns la n lc l w3 (HL.out w3 [_, _, _] s3) HN.out.1 HN.out.2
  go_wp2_with fail
  refine hq.mono ?_
  rintro r w4 ⟨lv, rfl, ho, k4⟩
  clear hq
  have s4 := s3.own k4 ho
  obtain ⟨ga, ca, hlv⟩ := own_form (show (ownI 79 2 lv l.length (insCells l)).P w4 from s4.get 0 rfl)
  have s5 := s4.box [.int .i64 0, .pointer (some ⟨S, 0, none⟩), .int .i64 0, .int .i64 0, .int .i64 0, .int .i64 0, .int .i64 0, .int .i64 0, .int .i64 0, .int .i64 0, .int .i64 0, .int .i64 0, .int .i64 0, .pointer none, .int .i64 0, .int .i64 0, .int .i64 0, .int .i64 0, .int .i64 0, .int .i64 0, .int .i64 0, .int .i64 0, .slice none 0 0, spp A, .pointer (some ⟨P.T, 0, none⟩), lv, .slice none 0 0, .bool false, .int .i64 0].toArray 105
  rw [pgW_new A w4.heap.size S lv P th l] at s5
  have hfin : PH o c A w4.heap.size R z (Pg.new th l) (w4.alloc (.cells (pgW A ⟨w4.heap.size, S, .slice none 0 0, 0, .slice none 0 0, lv, .slice none 0 0, .slice none 0 0, P⟩ (Pg.new th l)).toArray 105)) := by
    refine ⟨⟨w4.heap.size, S, .slice none 0 0, 0, .slice none 0 0, lv, .slice none 0 0, .slice none 0 0, P⟩, v, u, rfl, fun y e => by simp [Pg.new, Tt.new] at e, fun _ => rfl, ?_⟩
    refine St.outw (b := pgC A ⟨w4.heap.size, S, .slice none 0 0, 0, .slice none 0 0, lv, .slice none 0 0, .slice none 0 0, P⟩ (Pg.new th l)) ?_
    have q1 : St o (txI c A P (Tt.new th) :: boxI w4.heap.size _ 105 :: ownI 79 2 lv l.length (insCells l) :: stkI S (.slice none 0 0) [] :: spI A c z v u :: R) _ := s5.perm (by
      have p := List.perm_middle (l₁ := [boxI w4.heap.size (pgW A ⟨w4.heap.size, S, .slice none 0 0, 0, .slice none 0 0, lv, .slice none 0 0, .slice none 0 0, P⟩ (Pg.new th l)).toArray 105, ownI 79 2 lv l.length (insCells l), stkI S (.slice none 0 0) []]) (l₂ := spI A c z v u :: R) (a := txI c A P (Tt.new th))
      exact p)
    have q2 := ((q1.split.noInts).noInts).nilI
    have q3 := q2.perm (perm_new ..)
    exact q3
  have H5 := hid hfin
  unfold pgW at s5
  clear s3 s4 ho k4 hfin s5
  subst hlv
  go_wp2
  go_ret2
  exact ⟨w4.heap.size, rfl, H5.out⟩
end
end Go.Proofs.YthbcbjkgjgmegaaGreat

namespace Go.Proofs.YthbcbjkgjgmegaaGreat
open Go.RowKit
set_option linter.unusedVariables false
set_option linter.unusedSimpArgs false
attribute [local go_sem ↓] Go.wp_at_zero Go.wp_at_succ
section
variable {w : World} {B n : Nat} {v : Value} {xs : List Value}
theorem cloneL_nil :
    Calls Tryz.prog 43 #[.slice none 0 0] w fun e w' => e = .returned (.slice none 0 0) ∧ w' = w := by
  have hq := Lib.run_eql_slice_nil (P := Tryz.prog) w 37 2 none 0 0 0 0 Tryz.underlying37
  go_enter Tryz.func43, Tryz.ntmps43
  go_wp2
  go_ret
  exact ⟨rfl, rfl⟩
set_option maxRecDepth 100000 in
set_option maxHeartbeats 1000000 in
theorem cloneL_some {g cap : Nat} (h : w.ownsRow B 2 1 (.slice (some ⟨g, 0, none⟩) n cap) n xs) (hx : ∀ u ∈ xs, u.oneCell' = true) (hs : n ≤ 1000000000) :
    Calls Tryz.prog 43 #[.slice (some ⟨g, 0, none⟩) n cap] w fun e w' => ∃ v', e = .returned v' ∧ w'.ownsRow w.heap.size 2 1 v' n xs ∧ Kept (fun _ => False) w w' := by
  obtain ⟨i0, hi0, hz0, hz1, hz2⟩ := info_parts Tryz.infoS
  have hq := Lib.run_eql_slice_nil (P := Tryz.prog) w 37 2 (some ⟨g, 0, none⟩) n cap 0 0 Tryz.underlying37
  have hown0 := World.ownsRow_made (base := w.heap.size) (e := 2) (size := 1) w #[] 0 (Nat.le_refl _) (Nat.zero_le _) rfl
  have k0 := (Kept.refl (fun _ => False) w).alloc (.cells #[] 2)
  have hsrc := h.alloc (.cells #[] 2)
  have hl := h.1
  clear h
  go_enter Tryz.func43, Tryz.ntmps43
  go_wp2_with (at_builtin; refine wpList_append_own_at _ rfl (.tmp 5) (.tmp 6) 37 rfl w.heap.size 2 i0 _ 1 8 Tryz.underlying37 hi0 hz0 hz1 hz2 rfl (by omega) (.slice (some ⟨w.heap.size, 0, none⟩) 0 0) 0 [] rfl hown0 ⟨g, 0, none⟩ n cap xs rfl (by omega) (hsrc.cells rfl) hx (by unfold maxLen; omega) (by omega) (by simp) ?_; intro v1 w1 ho1 hg1 _ _)
  go_ret
  simp only [Nat.zero_add, List.nil_append] at ho1
  exact ⟨_, rfl, ho1, k0.grown hg1 (fun k e => .inr (by simp [Value.ownBlock] at e; omega))⟩
theorem cloneL_any (h : w.ownsRow B 2 1 v n xs) (hx : ∀ u ∈ xs, u.oneCell' = true) (hs : n ≤ 1000000000) :
    Calls Tryz.prog 43 #[v] w fun e w' => ∃ v', e = .returned v' ∧ w'.ownsRow w.heap.size 2 1 v' n xs ∧ Kept (fun _ => False) w w' := by
  rcases own_forms h with ⟨rfl, rfl, rfl⟩ | ⟨g, cap, rfl, hbg, hgl, hcap⟩
  · exact cloneL_nil.mono fun e w' ⟨he, hw⟩ => by subst hw; exact ⟨_, he, World.ownsRow_nil _ _ _ _, Kept.refl _ _⟩
  · exact cloneL_some h hx hs
end
section
variable {o w : World} {its R : List It} {A : Ad} {c : Cfg} {z : SSt} {v u : Value} {Q : PA} {x : Pg} {X : Nat}
theorem PH.done (h : PH o c A X R z x w) : Calls Tryz.prog 31 #[.pointer (some ⟨X, 0, none⟩)] w fun r w' => r = .returned (.bool x.dn) ∧ w' = w := by
  have c27 := h.doneCell
  clear h
  go_enter Tryz.func31, Tryz.ntmps31
  go_wp2
  go_ret
  exact ⟨rfl, rfl⟩
theorem St.filled {a : List It} {i1 i2 i3 : It} {B : Nat} {t : TypeId} {W : World} (h : St o (a ++ i1 :: i2 :: i3 :: boxI B #[.int .i64 0, .slice none 0 0, .int .i64 0, .int .i64 0, .int .i64 0, .int .i64 0, .int .i64 0, .int .i64 0, .int .i64 0, .int .i64 0, .slice none 0 0, .slice none 0 0, .bool false, .int .i64 0, .int .i64 0, .bool false, .int .i64 0] t :: R) W) (u0 u1 u2 u3 u4 u5 u6 u7 u8 u9 u10 u11 u12 u13 u14 u15 u16 : Value) : St o (a ++ i1 :: i2 :: i3 :: R) (((((((((((((((((W.setCell ⟨B, 0, none⟩ u0).setCell ⟨B, 1, none⟩ u1).setCell ⟨B, 2, none⟩ u2).setCell ⟨B, 3, none⟩ u3).setCell ⟨B, 4, none⟩ u4).setCell ⟨B, 5, none⟩ u5).setCell ⟨B, 6, none⟩ u6).setCell ⟨B, 7, none⟩ u7).setCell ⟨B, 8, none⟩ u8).setCell ⟨B, 9, none⟩ u9).setCell ⟨B, 10, none⟩ u10).setCell ⟨B, 11, none⟩ u11).setCell ⟨B, 12, none⟩ u12).setCell ⟨B, 13, none⟩ u13).setCell ⟨B, 14, none⟩ u14).setCell ⟨B, 15, none⟩ u15).setCell ⟨B, 16, none⟩ u16) ∧ ∀ j, (((((((((((((((((W.setCell ⟨B, 0, none⟩ u0).setCell ⟨B, 1, none⟩ u1).setCell ⟨B, 2, none⟩ u2).setCell ⟨B, 3, none⟩ u3).setCell ⟨B, 4, none⟩ u4).setCell ⟨B, 5, none⟩ u5).setCell ⟨B, 6, none⟩ u6).setCell ⟨B, 7, none⟩ u7).setCell ⟨B, 8, none⟩ u8).setCell ⟨B, 9, none⟩ u9).setCell ⟨B, 10, none⟩ u10).setCell ⟨B, 11, none⟩ u11).setCell ⟨B, 12, none⟩ u12).setCell ⟨B, 13, none⟩ u13).setCell ⟨B, 14, none⟩ u14).setCell ⟨B, 15, none⟩ u15).setCell ⟨B, 16, none⟩ u16).cell? ⟨B, j, none⟩ = ([u0, u1, u2, u3, u4, u5, u6, u7, u8, u9, u10, u11, u12, u13, u14, u15, u16].toArray)[j]? := by
  have p : List.Perm (a ++ i1 :: i2 :: i3 :: boxI B #[.int .i64 0, .slice none 0 0, .int .i64 0, .int .i64 0, .int .i64 0, .int .i64 0, .int .i64 0, .int .i64 0, .int .i64 0, .int .i64 0, .slice none 0 0, .slice none 0 0, .bool false, .int .i64 0, .int .i64 0, .bool false, .int .i64 0] t :: R) (boxI B [.int .i64 0, .slice none 0 0, .int .i64 0, .int .i64 0, .int .i64 0, .int .i64 0, .int .i64 0, .int .i64 0, .int .i64 0, .int .i64 0, .slice none 0 0, .slice none 0 0, .bool false, .int .i64 0, .int .i64 0, .bool false, .int .i64 0].toArray t :: (a ++ i1 :: i2 :: i3 :: R)) := by
    have := List.perm_middle (l₁ := a ++ [i1, i2, i3]) (l₂ := R) (a := boxI B #[.int .i64 0, .slice none 0 0, .int .i64 0, .int .i64 0, .int .i64 0, .int .i64 0, .int .i64 0, .int .i64 0, .int .i64 0, .int .i64 0, .slice none 0 0, .slice none 0 0, .bool false, .int .i64 0, .int .i64 0, .bool false, .int .i64 0] t)
    simpa using this
  have q := St.writesL [u0, u1, u2, u3, u4, u5, u6, u7, u8, u9, u10, u11, u12, u13, u14, u15, u16] 0 (h.perm p)
  have e : setL [.int .i64 0, .slice none 0 0, .int .i64 0, .int .i64 0, .int .i64 0, .int .i64 0, .int .i64 0, .int .i64 0, .int .i64 0, .int .i64 0, .slice none 0 0, .slice none 0 0, .bool false, .int .i64 0, .int .i64 0, .bool false, .int .i64 0] 0 [u0, u1, u2, u3, u4, u5, u6, u7, u8, u9, u10, u11, u12, u13, u14, u15, u16] = [u0, u1, u2, u3, u4, u5, u6, u7, u8, u9, u10, u11, u12, u13, u14, u15, u16] := by kernel_rfl
  rw [e] at q
  simp only [World.setCells, Nat.reduceAdd] at q
  exact ⟨q.pop, fun j => q.cell 0 rfl j⟩
theorem cell_pg (h : St o (txL c A Q.P x.tx ++ spI A c z v u :: (pgC A Q x ++ R)) w) (j : Nat) : w.cell? ⟨Q.X, j, none⟩ = (pgV A Q x)[j]? := h.cell 7 rfl j
set_option maxRecDepth 100000 in
set_option maxHeartbeats 4000000 in
theorem PH.state (h : PH o c A X R z x w) {k : Nat} (co : x.core k) (hk : k ≤ 1000000000) : Calls Tryz.prog 15 #[.pointer (some ⟨X, 0, none⟩)] w fun r w' => ∃ vs vt vh, r = .returned (.agg #[.int .i64 x.fm.pl, vs, .int .i64 (x.fm.lo.getD 0 0), .int .i64 (x.fm.lo.getD 1 0), .int .i64 (x.fm.lo.getD 2 0), .int .i64 (x.fm.lo.getD 3 0), .int .i64 (x.fm.lo.getD 4 0), .int .i64 (x.fm.lo.getD 5 0), .int .i64 (x.fm.lo.getD 6 0), .int .i64 (x.fm.lo.getD 7 0), vt, vh, .bool x.inside, .int .i64 x.sm, .int .i64 x.tr, .bool x.dn, .int .i64 x.er]) ∧ PH o c A X (ownI 2 1 vh x.hd.length (clCells x.hd) :: ownI 2 1 vt x.td.length (clCells x.td) :: ownI 2 1 vs x.fm.st.length (clCells x.fm.st) :: R) z x w' := by
  obtain ⟨Q, v, u, rfl, hJ, hn, h⟩ := h
  have s0 := (h.box #[.int .i64 0, .slice none 0 0, .int .i64 0, .int .i64 0, .int .i64 0, .int .i64 0, .int .i64 0, .int .i64 0, .int .i64 0, .int .i64 0, .slice none 0 0, .slice none 0 0, .bool false, .int .i64 0, .int .i64 0, .bool false, .int .i64 0] 40).mvR
  have hl1 : x.hd.length ≤ 1000000000 := by have := co.hl; omega
  have hl2 : x.td.length ≤ 1000000000 := by have := co.hl; omega
  clear h co
  obtain ⟨ta, tc, htv⟩ := own_form (show (ownI 2 1 Q.tv x.td.length (clCells x.td)).P _ from s0.get 12 rfl)
  obtain ⟨ha, hc, hhv⟩ := own_form (show (ownI 2 1 Q.hv x.hd.length (clCells x.hd)).P _ from s0.get 11 rfl)
  obtain ⟨S, hS⟩ : ∃ S : World → Prop, S = fun W => W.cell? ⟨Q.X, 0, none⟩ = some (.int .i64 x.fm.pl) ∧ W.cell? ⟨Q.X, 1, none⟩ = some (.pointer (some ⟨Q.S, 0, none⟩)) ∧ W.cell? ⟨Q.X, 2, none⟩ = some (.int .i64 (x.fm.lo.getD 0 0)) ∧ W.cell? ⟨Q.X, 3, none⟩ = some (.int .i64 (x.fm.lo.getD 1 0)) ∧ W.cell? ⟨Q.X, 4, none⟩ = some (.int .i64 (x.fm.lo.getD 2 0)) ∧ W.cell? ⟨Q.X, 5, none⟩ = some (.int .i64 (x.fm.lo.getD 3 0)) ∧ W.cell? ⟨Q.X, 6, none⟩ = some (.int .i64 (x.fm.lo.getD 4 0)) ∧ W.cell? ⟨Q.X, 7, none⟩ = some (.int .i64 (x.fm.lo.getD 5 0)) ∧ W.cell? ⟨Q.X, 8, none⟩ = some (.int .i64 (x.fm.lo.getD 6 0)) ∧ W.cell? ⟨Q.X, 9, none⟩ = some (.int .i64 (x.fm.lo.getD 7 0)) ∧ W.cell? ⟨Q.X, 10, none⟩ = some (.int .i64 x.sm) ∧ W.cell? ⟨Q.X, 11, none⟩ = some (.int .i64 x.tr) ∧ W.cell? ⟨Q.X, 22, none⟩ = some (Q.hv) ∧ W.cell? ⟨Q.X, 26, none⟩ = some (Q.tv) ∧ W.cell? ⟨Q.X, 27, none⟩ = some (.bool x.dn) ∧ W.cell? ⟨Q.X, 28, none⟩ = some (.int .i64 x.er) := ⟨_, rfl⟩
  have HS : Hid (∀ R' W, St o (txL c A Q.P x.tx ++ spI A c z v u :: (pgC A Q x ++ R')) W → S W) := by
    intro R' W hW
    rw [hS]
    have hj := cell_pg hW
    exact ⟨hj 0, hj 1, hj 2, hj 3, hj 4, hj 5, hj 6, hj 7, hj 8, hj 9, hj 10, hj 11, hj 22, hj 26, hj 27, hj 28⟩
  have HA : Hid (∀ W, St o (txL c A Q.P x.tx ++ spI A c z v u :: (pgC A Q x ++ boxI w.heap.size #[.int .i64 0, .slice none 0 0, .int .i64 0, .int .i64 0, .int .i64 0, .int .i64 0, .int .i64 0, .int .i64 0, .int .i64 0, .int .i64 0, .slice none 0 0, .slice none 0 0, .bool false, .int .i64 0, .int .i64 0, .bool false, .int .i64 0] 40 :: R)) W → Calls Tryz.prog 42 #[.pointer (some ⟨Q.S, 0, none⟩)] W fun r w' => ∃ sa sn sc, r = .returned (.slice sa sn sc) ∧ Hid (St o (txL c A Q.P x.tx ++ spI A c z v u :: (pgC A Q x ++ ownI 2 1 (.slice sa sn sc) x.fm.st.length (clCells x.fm.st) :: boxI w.heap.size #[.int .i64 0, .slice none 0 0, .int .i64 0, .int .i64 0, .int .i64 0, .int .i64 0, .int .i64 0, .int .i64 0, .int .i64 0, .int .i64 0, .slice none 0 0, .slice none 0 0, .bool false, .int .i64 0, .int .i64 0, .bool false, .int .i64 0] 40 :: R)) w')) := by
    intro W hW
    refine (kAll hW 8 rfl).mono ?_
    rintro r w' ⟨v', he, q⟩
    obtain ⟨p, cc, rfl⟩ := own_form (q.get 0 rfl)
    exact ⟨p, _, cc, he, q.mvR⟩
  have HT : Hid (∀ W RR, St o (txL c A Q.P x.tx ++ spI A c z v u :: (pgC A Q x ++ RR)) W → Calls Tryz.prog 43 #[Q.tv] W fun r w' => ∃ pa pn pc, r = .returned (.slice pa pn pc) ∧ Hid (St o (txL c A Q.P x.tx ++ spI A c z v u :: (pgC A Q x ++ ownI 2 1 (.slice pa pn pc) x.td.length (clCells x.td) :: RR)) w')) := by
    intro W RR hW
    refine (cloneL_any (show W.ownsRow 0 2 1 Q.tv x.td.length (clCells x.td) from hW.get 12 rfl) (clCells_one x.td) hl2).mono ?_
    rintro r w' ⟨v', he, ho, hk⟩
    have q := hW.own hk ho
    obtain ⟨p, cc, rfl⟩ := own_form (q.get 0 rfl)
    exact ⟨p, _, cc, he, q.mvR⟩
  have HH : Hid (∀ W RR, St o (txL c A Q.P x.tx ++ spI A c z v u :: (pgC A Q x ++ RR)) W → Calls Tryz.prog 43 #[Q.hv] W fun r w' => ∃ qa qn qc, r = .returned (.slice qa qn qc) ∧ Hid (St o (txL c A Q.P x.tx ++ spI A c z v u :: (pgC A Q x ++ ownI 2 1 (.slice qa qn qc) x.hd.length (clCells x.hd) :: RR)) w')) := by
    intro W RR hW
    refine (cloneL_any (show W.ownsRow 0 2 1 Q.hv x.hd.length (clCells x.hd) from hW.get 11 rfl) (clCells_one x.hd) hl1).mono ?_
    rintro r w' ⟨v', he, ho, hk⟩
    have q := hW.own hk ho
    obtain ⟨p, cc, rfl⟩ := own_form (q.get 0 rfl)
    exact ⟨p, _, cc, he, q.mvR⟩
  rw [hS] at HS
  rw [htv] at HT
  rw [hhv] at HH
  have HV : Hid (Q.tv = .slice ta x.td.length tc ∧ Q.hv = .slice ha x.hd.length hc) := ⟨htv, hhv⟩
  clear htv hhv hl1 hl2 hS
  generalize x.fm.lo.getD 0 0 = b0 at *
  generalize x.fm.lo.getD 1 0 = b1 at *
  generalize x.fm.lo.getD 2 0 = b2 at *
  generalize x.fm.lo.getD 3 0 = b3 at *
  generalize x.fm.lo.getD 4 0 = b4 at *
  generalize x.fm.lo.getD 5 0 = b5 at *
  generalize x.fm.lo.getD 6 0 = b6 at *
  generalize x.fm.lo.getD 7 0 = b7 at *
  go_enter Tryz.func15, Tryz.ntmps15
  go_upto_region 1 with fail
  generalize w.alloc (.cells #[.int .i64 0, .slice none 0 0, .int .i64 0, .int .i64 0, .int .i64 0, .int .i64 0, .int .i64 0, .int .i64 0, .int .i64 0, .int .i64 0, .slice none 0 0, .slice none 0 0, .bool false, .int .i64 0, .int .i64 0, .bool false, .int .i64 0] 40) = W0 at *
  generalize w.heap.size = B at *
  have rS := HS.out _ _ s0.drew
  have hA := HA.out _ s0.drew
  clear s0 HA
  simp only [HV.out.1, HV.out.2] at HS rS
  go_region_held3 (fun W => W.cell? ⟨Q.X, 0, none⟩ = some (.int .i64 x.fm.pl) ∧ W.cell? ⟨Q.X, 1, none⟩ = some (.pointer (some ⟨Q.S, 0, none⟩)) ∧ W.cell? ⟨Q.X, 2, none⟩ = some (.int .i64 b0) ∧ W.cell? ⟨Q.X, 3, none⟩ = some (.int .i64 b1) ∧ W.cell? ⟨Q.X, 4, none⟩ = some (.int .i64 b2) ∧ W.cell? ⟨Q.X, 5, none⟩ = some (.int .i64 b3) ∧ W.cell? ⟨Q.X, 6, none⟩ = some (.int .i64 b4) ∧ W.cell? ⟨Q.X, 7, none⟩ = some (.int .i64 b5) ∧ W.cell? ⟨Q.X, 8, none⟩ = some (.int .i64 b6) ∧ W.cell? ⟨Q.X, 9, none⟩ = some (.int .i64 b7) ∧ W.cell? ⟨Q.X, 10, none⟩ = some (.int .i64 x.sm) ∧ W.cell? ⟨Q.X, 11, none⟩ = some (.int .i64 x.tr) ∧ W.cell? ⟨Q.X, 22, none⟩ = some (.slice ha x.hd.length hc) ∧ W.cell? ⟨Q.X, 26, none⟩ = some (.slice ta x.td.length tc) ∧ W.cell? ⟨Q.X, 27, none⟩ = some (.bool x.dn) ∧ W.cell? ⟨Q.X, 28, none⟩ = some (.int .i64 x.er)) (first | (with_reducible exact rS) | (with_reducible exact rS5) | go_keep)
    (first
      | (go_at_call 42; refine hA.mono ?_; rintro r w1 ⟨sa, sn, sc, rfl, s1⟩; have rS := HS.out _ _ s1.out; have hT := HT.out _ _ s1.out)
      | (go_at_call 43; with_reducible refine hT.mono ?_; rintro r w2 ⟨pa, pn, pc, rfl, s2⟩; have rS := HS.out _ _ s2.out; have hH := HH.out _ _ s2.out)
      | (go_at_call 43; with_reducible refine hH.mono ?_; rintro r w3 ⟨qa, qn, qc, rfl, s3⟩; have rS := HS.out _ _ s3.out; have hI := pInside s3.out)
      | (go_at_call 44; refine hI.mono ?_; rintro r w4 ⟨rfl, s4⟩; have rS := HS.out _ _ s4; have d0 : w4.cell? ⟨B, 0, none⟩ = some (.int .i64 0) := s4.cell 16 rfl 0; have d1 : w4.cell? ⟨B, 1, none⟩ = some (.slice none 0 0) := s4.cell 16 rfl 1; have d2 : w4.cell? ⟨B, 2, none⟩ = some (.int .i64 0) := s4.cell 16 rfl 2; have d3 : w4.cell? ⟨B, 3, none⟩ = some (.int .i64 0) := s4.cell 16 rfl 3; have d4 : w4.cell? ⟨B, 4, none⟩ = some (.int .i64 0) := s4.cell 16 rfl 4; have d5 : w4.cell? ⟨B, 5, none⟩ = some (.int .i64 0) := s4.cell 16 rfl 5; have d6 : w4.cell? ⟨B, 6, none⟩ = some (.int .i64 0) := s4.cell 16 rfl 6; have d7 : w4.cell? ⟨B, 7, none⟩ = some (.int .i64 0) := s4.cell 16 rfl 7; have d8 : w4.cell? ⟨B, 8, none⟩ = some (.int .i64 0) := s4.cell 16 rfl 8; have d9 : w4.cell? ⟨B, 9, none⟩ = some (.int .i64 0) := s4.cell 16 rfl 9; have d10 : w4.cell? ⟨B, 10, none⟩ = some (.slice none 0 0) := s4.cell 16 rfl 10; have d11 : w4.cell? ⟨B, 11, none⟩ = some (.slice none 0 0) := s4.cell 16 rfl 11; have d12 : w4.cell? ⟨B, 12, none⟩ = some (.bool false) := s4.cell 16 rfl 12; have d13 : w4.cell? ⟨B, 13, none⟩ = some (.int .i64 0) := s4.cell 16 rfl 13; have d14 : w4.cell? ⟨B, 14, none⟩ = some (.int .i64 0) := s4.cell 16 rfl 14; have d15 : w4.cell? ⟨B, 15, none⟩ = some (.bool false) := s4.cell 16 rfl 15; have d16 : w4.cell? ⟨B, 16, none⟩ = some (.int .i64 0) := s4.cell 16 rfl 16; have dz : ∀ j, w4.frozen? ⟨B, j, none⟩ = false := fun j => s4.frozen 16 rfl j; obtain ⟨s5, kB⟩ := St.filled (a := txL c A Q.P x.tx ++ spI A c z v u :: pgC A Q x) (by simpa using s4) (.int .i64 x.fm.pl) (.slice sa sn sc) (.int .i64 b0) (.int .i64 b1) (.int .i64 b2) (.int .i64 b3) (.int .i64 b4) (.int .i64 b5) (.int .i64 b6) (.int .i64 b7) (.slice pa pn pc) (.slice qa qn qc) (.bool x.inside) (.int .i64 x.sm) (.int .i64 x.tr) (.bool x.dn) (.int .i64 x.er); have s6 : St o (txL c A Q.P x.tx ++ spI A c z v u :: (pgC A Q x ++ ownI 2 1 (.slice qa qn qc) x.hd.length (clCells x.hd) :: ownI 2 1 (.slice pa pn pc) x.td.length (clCells x.td) :: ownI 2 1 (.slice sa sn sc) x.fm.st.length (clCells x.fm.st) :: R)) _ := (by simpa using s5); have rS5 := HS.out _ _ s6; have H6 := hid s6; have HKB := hid kB; clear s4 s5 s6 kB))
  have s6 := H6.out
  have kB := HKB.out
  clear H6 HKB rS5 rS d0 d1 d2 d3 d4 d5 d6 d7 d8 d9 d10 d11 d12 d13 d14 d15 d16 dz
  generalize (((((((((((((((((w4.setCell ⟨B, 0, none⟩ (.int .i64 x.fm.pl)).setCell ⟨B, 1, none⟩ (.slice sa sn sc)).setCell ⟨B, 2, none⟩ (.int .i64 b0)).setCell ⟨B, 3, none⟩ (.int .i64 b1)).setCell ⟨B, 4, none⟩ (.int .i64 b2)).setCell ⟨B, 5, none⟩ (.int .i64 b3)).setCell ⟨B, 6, none⟩ (.int .i64 b4)).setCell ⟨B, 7, none⟩ (.int .i64 b5)).setCell ⟨B, 8, none⟩ (.int .i64 b6)).setCell ⟨B, 9, none⟩ (.int .i64 b7)).setCell ⟨B, 10, none⟩ (.slice pa pn pc)).setCell ⟨B, 11, none⟩ (.slice qa qn qc)).setCell ⟨B, 12, none⟩ (.bool x.inside)).setCell ⟨B, 13, none⟩ (.int .i64 x.sm)).setCell ⟨B, 14, none⟩ (.int .i64 x.tr)).setCell ⟨B, 15, none⟩ (.bool x.dn)).setCell ⟨B, 16, none⟩ (.int .i64 x.er)) = W9 at *
  have k0 : W9.cell? ⟨B, 0, none⟩ = some (.int .i64 x.fm.pl) := kB 0
  have k1 : W9.cell? ⟨B, 1, none⟩ = some (.slice sa sn sc) := kB 1
  have k2 : W9.cell? ⟨B, 2, none⟩ = some (.int .i64 b0) := kB 2
  have k3 : W9.cell? ⟨B, 3, none⟩ = some (.int .i64 b1) := kB 3
  have k4 : W9.cell? ⟨B, 4, none⟩ = some (.int .i64 b2) := kB 4
  have k5 : W9.cell? ⟨B, 5, none⟩ = some (.int .i64 b3) := kB 5
  have k6 : W9.cell? ⟨B, 6, none⟩ = some (.int .i64 b4) := kB 6
  have k7 : W9.cell? ⟨B, 7, none⟩ = some (.int .i64 b5) := kB 7
  have k8 : W9.cell? ⟨B, 8, none⟩ = some (.int .i64 b6) := kB 8
  have k9 : W9.cell? ⟨B, 9, none⟩ = some (.int .i64 b7) := kB 9
  have k10 : W9.cell? ⟨B, 10, none⟩ = some (.slice pa pn pc) := kB 10
  have k11 : W9.cell? ⟨B, 11, none⟩ = some (.slice qa qn qc) := kB 11
  have k12 : W9.cell? ⟨B, 12, none⟩ = some (.bool x.inside) := kB 12
  have k13 : W9.cell? ⟨B, 13, none⟩ = some (.int .i64 x.sm) := kB 13
  have k14 : W9.cell? ⟨B, 14, none⟩ = some (.int .i64 x.tr) := kB 14
  have k15 : W9.cell? ⟨B, 15, none⟩ = some (.bool x.dn) := kB 15
  have k16 : W9.cell? ⟨B, 16, none⟩ = some (.int .i64 x.er) := kB 16
  have H6 := hid s6
  clear kB s6
  go_wp2
  exact bodyPost_ret (v := .agg #[.int .i64 x.fm.pl, .slice sa sn sc, .int .i64 b0, .int .i64 b1, .int .i64 b2, .int .i64 b3, .int .i64 b4, .int .i64 b5, .int .i64 b6, .int .i64 b7, .slice pa pn pc, .slice qa qn qc, .bool x.inside, .int .i64 x.sm, .int .i64 x.tr, .bool x.dn, .int .i64 x.er]) (by simp [results, Tryz.results15, go_sem, k0, k1, k2, k3, k4, k5, k6, k7, k8, k9, k10, k11, k12, k13, k14, k15, k16]) rfl ⟨_, _, _, rfl, Q, v, u, rfl, hJ, hn, H6.out⟩
end
end Go.Proofs.YthbcbjkgjgmegaaGreat
