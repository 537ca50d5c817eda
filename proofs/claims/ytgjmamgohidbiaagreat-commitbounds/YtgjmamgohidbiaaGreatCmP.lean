/- A commit is made. -/
import Derived.Test.YtgjmamgohidbiaaGreatCmO
namespace Go.Proofs.YtgjmamgohidbiaaGreat
open Go.RowKit
set_option linter.unusedVariables false
set_option linter.unusedSimpArgs false
attribute [local go_sem ↓] Go.wp_at_zero Go.wp_at_succ

/-- What New answers. -/
def ckE (c : Cfg) (so th sp : Int) (ps : List Pr) : Int :=
  if (decide (1 ≤ th) && decide (th ≤ 8)) = false then 1 else if sp < 1 then 1 else if ps = [] then 1
  else if 16 < ps.length then 3 else if inC c.sl so = false then 2 else cellsE (cesOf ps) c.ce

set_option maxRecDepth 100000 in
set_option maxHeartbeats 1000000 in
theorem cmCheck (c : Cfg) (hf : c.fits = true) (so ge th sp : Int) (la : Option Addr) (n lc : Nat) (ps : List Pr) (w : World) (hP : PIn w la n ps) (hn : n ≤ 17592186044416) :
    Calls Tryz.prog 60 #[c.val, .agg #[.int .i64 so, .int .i64 ge, .int .i64 th, .int .i64 sp, .slice la n lc]] w fun e w' => e = .returned (.int .i64 (ckE c so th sp ps)) ∧ Kept (fun _ => False) w w' := by
  obtain ⟨f1, f2, f3, f4⟩ := Cfg.fits_cells hf
  have h2 := ((St.nil w).box #[.int .i64 c.ce, .int .i64 c.sl, .int .i64 c.bi, .int .i64 c.ta, .int .i64 c.ba, .int .i64 c.de] 23).box #[.int .i64 so, .int .i64 ge, .int .i64 th, .int .i64 sp, .slice la n lc] 47
  have HN : Hid (n = ps.length) := hP.1
  have E1 : Hid ((decide (1 ≤ th) && decide (th ≤ 8)) = false → ckE c so th sp ps = 1) := fun h => by unfold ckE; rw [if_pos h]
  have E2 : Hid ((decide (1 ≤ th) && decide (th ≤ 8)) = true → sp < 1 → ckE c so th sp ps = 1) := fun h k => by unfold ckE; rw [if_neg (by rw [h]; simp), if_pos k]
  have E3 : Hid ((decide (1 ≤ th) && decide (th ≤ 8)) = true → ¬ sp < 1 → n = 0 → ckE c so th sp ps = 1) := fun h k e => by unfold ckE; rw [if_neg (by rw [h]; simp), if_neg k, if_pos (List.length_eq_zero_iff.1 (by rw [← HN.out]; exact e))]
  have E4 : Hid ((decide (1 ≤ th) && decide (th ≤ 8)) = true → ¬ sp < 1 → n ≠ 0 → 16 < n → ckE c so th sp ps = 3) := fun h k e g => by unfold ckE; rw [if_neg (by rw [h]; simp), if_neg k, if_neg (fun q => e (by rw [HN.out, q]; rfl)), if_pos (by rw [← HN.out]; exact g)]
  have E5 : Hid ((decide (1 ≤ th) && decide (th ≤ 8)) = true → ¬ sp < 1 → n ≠ 0 → ¬ 16 < n → inC c.sl so = false → ckE c so th sp ps = 2) := fun h k e g q => by unfold ckE; rw [if_neg (by rw [h]; simp), if_neg k, if_neg (fun q => e (by rw [HN.out, q]; rfl)), if_neg (by rw [← HN.out]; exact g), if_pos q]
  have E6 : Hid ((decide (1 ≤ th) && decide (th ≤ 8)) = true → ¬ sp < 1 → n ≠ 0 → ¬ 16 < n → inC c.sl so = true → ckE c so th sp ps = cellsE (cesOf ps) c.ce) := fun h k e g q => by unfold ckE; rw [if_neg (by rw [h]; simp), if_neg k, if_neg (fun q => e (by rw [HN.out, q]; rfl)), if_neg (by rw [← HN.out]; exact g), if_neg (by rw [q]; simp)]
  generalize ckE c so th sp ps = E at *
  have HCK : Hid (∀ W, Kept (fun _ => False) w W → 0 < n → n ≤ 16 → Calls Tryz.prog 62 #[.slice la n lc] W fun e w' => ∃ g, e = .returned (.slice (some ⟨g, 0, none⟩) n n) ∧ Kept (fun _ => False) W w' ∧ Calls Tryz.prog 114 #[.slice (some ⟨g, 0, none⟩) n n, .int .i64 c.ce] w' fun e w'' => e = .returned (.int .i64 (cellsE (cesOf ps) c.ce)) ∧ w'' = w') := by
    intro W hW h0 h16
    refine (cellsOf_any la n lc ps W (hP.kept hW) h16 h0).mono ?_
    rintro e w' ⟨g, he, hI, hK⟩
    exact ⟨g, he, hK, ckCells g n n _ _ w' hI h16 (Nat.le_refl _) f1 f2⟩
  clear hP
  have hWT := fun W => cmWithin th 1 8 W
  have hWS : ∀ W, Calls Tryz.prog 102 #[.int .i64 so, .int .i64 0, .int .i64 (c.sl - 1)] W fun e w' => e = .returned (.bool (inC c.sl so)) ∧ w' = W := fun W => cmWithin so 0 (c.sl - 1) W
  generalize (decide (1 ≤ th) && decide (th ≤ 8)) = bt at *
  generalize inC c.sl so = bs at *
  generalize cellsE (cesOf ps) c.ce = CE at *
  obtain ⟨ce, sl, bi, ta, ba, de⟩ := c
  simp only at *
  unfold Cfg.val
  simp only
  go_enter Tryz.func60, Tryz.ntmps60
  go_upto_region 1 with fail
  have s0 := h2.cell 0 rfl 0
  have s2 := h2.cell 0 rfl 2
  have s3 := h2.cell 0 rfl 3
  have s4 := h2.cell 0 rfl 4
  have t0 := h2.cell 1 rfl 0
  have t1 := h2.cell 1 rfl 1
  have HK : Hid _ := h2.same
  clear h2
  simp only [List.getElem?_toArray, List.getElem?_cons_zero, List.getElem?_cons_succ] at s0 s2 s3 s4 t0 t1
  have hsz : (w.alloc (.cells #[.int .i64 ce, .int .i64 sl, .int .i64 bi, .int .i64 ta, .int .i64 ba, .int .i64 de] 23)).heap.size = w.heap.size + 1 := Array.size_push _
  rw [hsz] at s0 s2 s3 s4
  clear hsz
  generalize (w.alloc (.cells #[.int .i64 ce, .int .i64 sl, .int .i64 bi, .int .i64 ta, .int .i64 ba, .int .i64 de] 23)).alloc (.cells #[.int .i64 so, .int .i64 ge, .int .i64 th, .int .i64 sp, .slice la n lc] 47) = W2 at *
  generalize w.heap.size = M1 at *
  generalize M1 + 1 = M2 at *
  cases bt with
  | false =>
    obtain rfl := E1.out rfl
    have hq := hWT W2
    clear E1 E2 E3 E4 E5 E6 hWT hWS HCK
    go_wp2_with (go_at_call 102; refine hq.mono ?_; rintro e w2 ⟨rfl, rfl⟩)
    go_ret
    exact ⟨rfl, HK.out⟩
  | true =>
  by_cases h1 : sp < 1
  · obtain rfl := E2.out rfl h1
    have hq := hWT W2
    clear E1 E2 E3 E4 E5 E6 hWT hWS HCK
    go_wp2_with (go_at_call 102; refine hq.mono ?_; rintro e w2 ⟨rfl, rfl⟩)
    go_ret
    exact ⟨rfl, HK.out⟩
  · have h1' : decide (sp < 1) = false := decide_eq_false h1
    by_cases h3 : n = 0
    · obtain rfl := E3.out rfl h1 h3
      subst h3
      have hq := hWT W2
      clear E1 E2 E3 E4 E5 E6 hWT hWS HCK
      go_wp2_with (go_at_call 102; refine hq.mono ?_; rintro e w2 ⟨rfl, rfl⟩)
      go_ret
      exact ⟨rfl, HK.out⟩
    · have h3' : ((n : Int) == 0) = false := by simpa using h3
      by_cases h4 : 16 < n
      · obtain rfl := E4.out rfl h1 h3 h4
        have h4' : (16 : Int) < (n : Int) := by omega
        have hq := hWT W2
        clear E1 E2 E3 E4 E5 E6 hWT hWS HCK
        go_wp2_with (go_at_call 102; refine hq.mono ?_; rintro e w2 ⟨rfl, rfl⟩)
        go_ret
        exact ⟨rfl, HK.out⟩
      · have h4' : ¬ (16 : Int) < (n : Int) := by omega
        have h4'' : decide ((16 : Int) < (n : Int)) = false := decide_eq_false h4'
        cases bs with
        | false =>
          obtain rfl := E5.out rfl h1 h3 h4 rfl
          have hq := hWT W2
          have hq2 := hWS W2
          clear E1 E2 E3 E4 E5 E6 hWT hWS HCK
          go_wp2_with fail
          refine hq.mono ?_
          rintro e w2 ⟨rfl, rfl⟩
          clear hq
          go_wp2_with fail
          refine hq2.mono ?_
          rintro e w3 ⟨rfl, rfl⟩
          clear hq2
          go_wp2
          go_ret
          exact ⟨rfl, HK.out⟩
        | true =>
          obtain rfl := E6.out rfl h1 h3 h4 rfl
          have hq := hWT W2
          have hq2 := hWS W2
          have hq3 : Calls Tryz.prog 62 #[.slice la n lc] W2.drew fun e w' => ∃ g, e = .returned (.slice (some ⟨g, 0, none⟩) n n) ∧ (w'.cell? ⟨M2, 4, none⟩ = some (.slice la n lc) ∧ w'.cell? ⟨M1, 0, none⟩ = some (.int .i64 ce)) ∧ Hid (Kept (fun _ => False) w w') ∧ Calls Tryz.prog 114 #[.slice (some ⟨g, 0, none⟩) n n, .int .i64 ce] w' fun e w'' => e = .returned (.int .i64 E) ∧ w'' = w' := by
            refine (HCK.out _ HK.out.drew (by omega) (by omega)).mono ?_
            rintro e w' ⟨g, he, hk, hc⟩
            exact ⟨g, he, ⟨(World.cell?_of_block (hk.block M2 (World.block_lt_of_cell? W2 _ s4) id)).trans s4, (World.cell?_of_block (hk.block M1 (World.block_lt_of_cell? W2 _ t0) id)).trans t0⟩, HK.out.drew.trans hk (fun _ _ f => f), hc⟩
          clear E1 E2 E3 E4 E5 E6 hWT hWS HCK
          go_wp2_with fail
          refine hq.mono ?_
          rintro e w2 ⟨rfl, rfl⟩
          clear hq
          go_wp2_with fail
          refine hq2.mono ?_
          rintro e w3 ⟨rfl, rfl⟩
          clear hq2
          go_upto_region 9 with fail
          clear HK
          go_region_held3 (fun W => W.cell? ⟨M2, 4, none⟩ = some (.slice la n lc) ∧ W.cell? ⟨M1, 0, none⟩ = some (.int .i64 ce)) (first | go_keep | exact rS)
            (first | (go_at_call 62; refine hq3.mono ?_; rintro e w4 ⟨g, rfl, rS, HK, hq4⟩) | (go_at_call 114; refine hq4.mono ?_; rintro e w5 ⟨rfl, rfl⟩))
          go_wp2
          go_ret
          exact ⟨rfl, HK.out⟩

/-- What is made. -/
def Cm.new (so : Nat) (ge th sp : Int) (ps : List Pr) (wr : Sg) (n : Nat) : Cm := ⟨so, ge, th, sp, ps, Lk.new wr n so, .take, 0, false, 0⟩
theorem ckE_zero {c : Cfg} {so th sp : Int} {ps : List Pr} (h : ckE c so th sp ps = 0) : 1 ≤ th ∧ th ≤ 8 ∧ 1 ≤ sp ∧ ps ≠ [] ∧ ps.length ≤ 16 ∧ 0 ≤ so ∧ so < c.sl ∧ outC c.ce (cesOf ps) = false ∧ twiceB (cesOf ps) = false := by
  unfold ckE at h
  split at h
  · omega
  split at h
  · omega
  split at h
  · omega
  split at h
  · omega
  split at h
  · omega
  rename_i h1 h2 h3 h4 h5
  simp only [Bool.not_eq_false, Bool.and_eq_true, decide_eq_true_eq] at h1
  simp only [Bool.not_eq_false, inC, Bool.and_eq_true, decide_eq_true_eq] at h5
  unfold cellsE at h
  split at h
  · omega
  split at h
  · omega
  rename_i h6 h7
  exact ⟨h1.1, h1.2, by omega, h3, by omega, h5.1, by omega, by simpa using h6, by simpa using h7⟩
theorem Cm.fit_new {c : Cfg} {so : Nat} {ge th sp : Int} {ps : List Pr} (h : ckE c so th sp ps = 0) {wr : Sg} (hw : wr.ok) {n : Nat} (hn : n ≤ 8) (hl : (n : Int) = c.sl) : (Cm.new so ge th sp ps wr n).fit n := by
  obtain ⟨a, b, _, e, f, _, g, _⟩ := ckE_zero h
  exact ⟨a, b, by simp [Cm.new], by simp only [Cm.new]; omega, List.length_pos_iff.2 e, f, Lk.fit_new hw hn _, Lk.inn_new _ _ _, fun d e => by simp [Cm.new] at e, fun k e => by simp [Cm.new] at e⟩

section
variable {o w : World} {its : List It} {A : Ad} {c : Cfg} {z : SSt} {v u : Value}
theorem St.popAt {pre : List It} {X : It} {l : List It} (h : St o (pre ++ X :: l) w) : St o (pre ++ l) w := (h.perm List.perm_middle).pop
theorem St.nilI (h : St o its w) : St o (joinI [] :: its) w := h.push (joinI []) (Kept.refl _ w) (fun B hB => by cases hB) List.nodup_nil (fun b hb => by cases hb)
set_option maxRecDepth 100000 in
set_option maxHeartbeats 1000000 in
theorem cmNew_out (h : St o its w) (i : Nat) (hi : its[i]? = some (spI A c z v u)) (hf : c.fits = true) (J : Nat) (so ge th sp : Int) (la : Option Addr) (n lc : Nat) (ps : List Pr) (hP : ∀ W, St o its W → PIn W la n ps) (hn : n ≤ 17592186044416) (hE : ckE c so th sp ps ≠ 0) :
    Calls Tryz.prog 15 #[spp A, .pointer (some ⟨J, 0, none⟩), .agg #[.int .i64 so, .int .i64 ge, .int .i64 th, .int .i64 sp, .slice la n lc]] w fun e w' => e = .returned (.tuple #[.pointer none, .int .i64 (ckE c so th sp ps)]) ∧ St o its w' := by
  have h1 := h.box #[.int .i64 so, .int .i64 ge, .int .i64 th, .int .i64 sp, .slice la n lc] 47
  have hq := spConfig h1 (i + 1) hi
  have HC : Hid (∀ W, St o its W → Calls Tryz.prog 60 #[.agg #[.int .i64 c.ce, .int .i64 c.sl, .int .i64 c.bi, .int .i64 c.ta, .int .i64 c.ba, .int .i64 c.de], .agg #[.int .i64 so, .int .i64 ge, .int .i64 th, .int .i64 sp, .slice la n lc]] W fun e w' => e = .returned (.int .i64 (ckE c so th sp ps)) ∧ Kept (fun _ => False) W w') := fun W hW => cmCheck c hf so ge th sp la n lc ps W (hP W hW) hn
  unfold spp at *
  unfold Cfg.val at hq
  go_enter Tryz.func15, Tryz.ntmps15
  go_upto_region 1 with fail
  generalize w.alloc (.cells #[.int .i64 so, .int .i64 ge, .int .i64 th, .int .i64 sp, .slice la n lc] 47) = W1 at *
  generalize w.heap.size = M1 at *
  go_wp2_with fail
  refine hq.mono ?_
  rintro e w2 ⟨rfl, s2⟩
  clear hq h1
  have s3 := s2.box #[.int .i64 c.ce, .int .i64 c.sl, .int .i64 c.bi, .int .i64 c.ta, .int .i64 c.ba, .int .i64 c.de] 23
  clear s2
  go_upto_region 2 with fail
  generalize w2.alloc (.cells #[.int .i64 c.ce, .int .i64 c.sl, .int .i64 c.bi, .int .i64 c.ta, .int .i64 c.ba, .int .i64 c.de] 23) = w3 at *
  generalize w2.heap.size = M3 at *
  have hq := HC.out w3 s3.pop.pop
  have a0 : w3.cell? ⟨M3, 0, none⟩ = some (.int .i64 c.ce) := s3.cell 0 rfl 0
  have a1 : w3.cell? ⟨M3, 1, none⟩ = some (.int .i64 c.sl) := s3.cell 0 rfl 1
  have a2 : w3.cell? ⟨M3, 2, none⟩ = some (.int .i64 c.bi) := s3.cell 0 rfl 2
  have a3 : w3.cell? ⟨M3, 3, none⟩ = some (.int .i64 c.ta) := s3.cell 0 rfl 3
  have a4 : w3.cell? ⟨M3, 4, none⟩ = some (.int .i64 c.ba) := s3.cell 0 rfl 4
  have a5 : w3.cell? ⟨M3, 5, none⟩ = some (.int .i64 c.de) := s3.cell 0 rfl 5
  have b0 : w3.cell? ⟨M1, 0, none⟩ = some (.int .i64 so) := s3.cell 1 rfl 0
  have b1 : w3.cell? ⟨M1, 1, none⟩ = some (.int .i64 ge) := s3.cell 1 rfl 1
  have b2 : w3.cell? ⟨M1, 2, none⟩ = some (.int .i64 th) := s3.cell 1 rfl 2
  have b3 : w3.cell? ⟨M1, 3, none⟩ = some (.int .i64 sp) := s3.cell 1 rfl 3
  have b4 : w3.cell? ⟨M1, 4, none⟩ = some (.slice la n lc) := s3.cell 1 rfl 4
  have HS3 : Hid _ := s3
  clear s3
  go_wp2_with fail
  refine hq.mono ?_
  rintro e w4 ⟨rfl, k4⟩
  have s4 := HS3.out.calm k4
  clear hq HS3 HC k4 a0 a1 a2 a3 a4 a5 b0 b1 b2 b3 b4
  have HS : Hid _ := s4.pop.pop
  have hE1 : (ckE c so th sp ps != 0) = true := by simpa using hE
  clear s4 h hP hi
  go_wp2
  go_ret2
  exact ⟨rfl, HS.out⟩

set_option maxRecDepth 100000 in
set_option maxHeartbeats 2000000 in
theorem cmNew_st (h : St o its w) (i : Nat) (hi : its[i]? = some (spI A c z v u)) (hf : c.fits = true) (hl : (z.hs.length : Int) = c.sl) (J : Nat) (so : Nat) (ge th sp : Int) (la : Option Addr) (n lc : Nat) (ps : List Pr) (hP : ∀ W, St o its W → PIn W la n ps) (hn : n ≤ 17592186044416) (hE : ckE c so th sp ps = 0) :
    Calls Tryz.prog 15 #[spp A, .pointer (some ⟨J, 0, none⟩), .agg #[.int .i64 (so : Nat), .int .i64 ge, .int .i64 th, .int .i64 sp, .slice la n lc]] w fun e w' => ∃ B vl dl dv, e = .returned (.tuple #[.pointer (some ⟨B.X, 0, none⟩), .int .i64 0]) ∧ B.J = J ∧ St o (cmI A B 0 (Cm.new so ge th sp ps (ofR (cesOf ps) c.bi).1 z.hs.length) vl (.slice none 0 0) (.slice none 0 0) dl dv :: its) w' := by
  obtain ⟨e1, e2, e3, e4, e5, e6, e7, e8, e9⟩ := ckE_zero hE
  have f8 := (Cfg.fits_cells hf).2.2.2
  have HN : Hid (n = ps.length) := (hP w h).1
  have n1 : 1 ≤ n := by have := HN.out; have := List.length_pos_iff.2 e4; omega
  have n16 : n ≤ 16 := by have := HN.out; omega
  have HP : Hid (∀ W, St o its W → PIn W la n ps) := hP
  have h1 := h.box #[.int .i64 (so : Nat), .int .i64 ge, .int .i64 th, .int .i64 sp, .slice la n lc] 47
  have hq := spConfig h1 (i + 1) hi
  have HC : Hid (∀ W, St o its W → Calls Tryz.prog 60 #[.agg #[.int .i64 c.ce, .int .i64 c.sl, .int .i64 c.bi, .int .i64 c.ta, .int .i64 c.ba, .int .i64 c.de], .agg #[.int .i64 (so : Nat), .int .i64 ge, .int .i64 th, .int .i64 sp, .slice la n lc]] W fun e w' => e = .returned (.int .i64 (ckE c so th sp ps)) ∧ Kept (fun _ => False) W w') := fun W hW => cmCheck c hf so ge th sp la n lc ps W (hP W hW) hn
  unfold spp at *
  unfold Cfg.val at hq
  go_enter Tryz.func15, Tryz.ntmps15
  go_upto_region 1 with fail
  generalize w.alloc (.cells #[.int .i64 (so : Nat), .int .i64 ge, .int .i64 th, .int .i64 sp, .slice la n lc] 47) = W1 at *
  generalize w.heap.size = M1 at *
  go_wp2_with fail
  refine hq.mono ?_
  rintro e w2 ⟨rfl, s2⟩
  clear hq h1
  have s3 := s2.box #[.int .i64 c.ce, .int .i64 c.sl, .int .i64 c.bi, .int .i64 c.ta, .int .i64 c.ba, .int .i64 c.de] 23
  clear s2
  go_upto_region 2 with fail
  generalize w2.alloc (.cells #[.int .i64 c.ce, .int .i64 c.sl, .int .i64 c.bi, .int .i64 c.ta, .int .i64 c.ba, .int .i64 c.de] 23) = w3 at *
  generalize w2.heap.size = M3 at *
  have hq := HC.out w3 s3.pop.pop
  have a0 : w3.cell? ⟨M3, 0, none⟩ = some (.int .i64 c.ce) := s3.cell 0 rfl 0
  have a1 : w3.cell? ⟨M3, 1, none⟩ = some (.int .i64 c.sl) := s3.cell 0 rfl 1
  have a2 : w3.cell? ⟨M3, 2, none⟩ = some (.int .i64 c.bi) := s3.cell 0 rfl 2
  have a3 : w3.cell? ⟨M3, 3, none⟩ = some (.int .i64 c.ta) := s3.cell 0 rfl 3
  have a4 : w3.cell? ⟨M3, 4, none⟩ = some (.int .i64 c.ba) := s3.cell 0 rfl 4
  have a5 : w3.cell? ⟨M3, 5, none⟩ = some (.int .i64 c.de) := s3.cell 0 rfl 5
  have b0 : w3.cell? ⟨M1, 0, none⟩ = some (.int .i64 (so : Nat)) := s3.cell 1 rfl 0
  have b1 : w3.cell? ⟨M1, 1, none⟩ = some (.int .i64 ge) := s3.cell 1 rfl 1
  have b2 : w3.cell? ⟨M1, 2, none⟩ = some (.int .i64 th) := s3.cell 1 rfl 2
  have b3 : w3.cell? ⟨M1, 3, none⟩ = some (.int .i64 sp) := s3.cell 1 rfl 3
  have b4 : w3.cell? ⟨M1, 4, none⟩ = some (.slice la n lc) := s3.cell 1 rfl 4
  have HS3 : Hid _ := s3
  clear s3
  go_wp2_with fail
  refine hq.mono ?_
  rintro e w4 ⟨rfl, k4⟩
  have s4 := HS3.out.calm k4
  clear hq HS3 HC k4 a0 a1 a2 a3 a4 a5 b0 b1 b2 b3 b4
  rw [hE]
  have b4 : w4.cell? ⟨M1, 4, none⟩ = some (.slice la n lc) := s4.cell 1 rfl 4
  have f4 : w4.frozen? ⟨M1, 4, none⟩ = false := s4.frozen 1 rfl 4
  obtain ⟨gl, ol, rfl, -⟩ := (HP.out _ s4.pop.pop).2 (by omega)
  have hq := clonePr (some ⟨gl, ol, none⟩) n lc ps w4 (HP.out _ s4.pop.pop) (fun e => by cases e) (by omega)
  have HS4 : Hid _ := s4
  clear s4 h hP
  go_wp2_with fail
  refine hq.mono ?_
  rintro e w5 ⟨vw, rfl, ow, k5⟩
  have s5 := HS4.out.own k5 ow
  obtain ⟨gw, cw, rfl⟩ := s5.form 0 rfl (by have := HN.out; omega)
  clear hq HS4 b4 ow k5
  have b4 : w5.cell? ⟨M1, 4, none⟩ = some (.slice (some ⟨gl, ol, none⟩) n lc) := s5.cell 2 rfl 4
  have f4 : w5.frozen? ⟨M1, 4, none⟩ = false := s5.frozen 2 rfl 4
  have s6 := s5.write 2 rfl 4 (.slice (some ⟨gw, 0, none⟩) ps.length cw)
  clear s5
  go_upto_region 6 with fail
  generalize w5.setCell ⟨M1, 4, none⟩ (.slice (some ⟨gw, 0, none⟩) ps.length cw) = w6 at *
  clear b4 f4
  have s6' : St o (ownI 59 2 (.slice (some ⟨gw, 0, none⟩) ps.length cw) ps.length (prCells ps) :: boxI M3 #[.int .i64 c.ce, .int .i64 c.sl, .int .i64 c.bi, .int .i64 c.ta, .int .i64 c.ba, .int .i64 c.de] 23 :: boxI M1 #[.int .i64 (so : Nat), .int .i64 ge, .int .i64 th, .int .i64 sp, .slice (some ⟨gw, 0, none⟩) ps.length cw] 47 :: its) w6 := s6
  clear s6
  have p1 : 0 < ps.length := List.length_pos_iff.2 e4
  have HA : Hid (∀ W, St o (ownI 59 2 (.slice (some ⟨gw, 0, none⟩) ps.length cw) ps.length (prCells ps) :: boxI M3 #[.int .i64 c.ce, .int .i64 c.sl, .int .i64 c.bi, .int .i64 c.ta, .int .i64 c.ba, .int .i64 c.de] 23 :: boxI M1 #[.int .i64 (so : Nat), .int .i64 ge, .int .i64 th, .int .i64 sp, .slice (some ⟨gw, 0, none⟩) ps.length cw] 47 :: its) W → Calls Tryz.prog 62 #[.slice (some ⟨gw, 0, none⟩) ps.length cw] W fun e w' => ∃ g, e = .returned (.slice (some ⟨g, 0, none⟩) ps.length ps.length) ∧ Kept (fun _ => False) W w' ∧ IntsIn w' (some ⟨g, 0, none⟩) ps.length (cesOf ps)) := by
    intro W hW
    obtain ⟨la', lc', e', hPI, _⟩ := own_pin (show W.ownsRow 0 59 2 (.slice (some ⟨gw, 0, none⟩) ps.length cw) ps.length (prCells ps) from hW.get 0 rfl)
    simp only [Value.slice.injEq, true_and] at e'
    obtain ⟨rfl, rfl⟩ := e'
    refine (cellsOf_any _ ps.length cw ps W hPI e5 p1).mono ?_
    rintro e w' ⟨g, he, hI, hK⟩
    exact ⟨g, he, hK, hI⟩
  have HOF : Hid (∀ W g, IntsIn W (some ⟨g, 0, none⟩) ps.length (cesOf ps) → Calls Tryz.prog 28 #[.slice (some ⟨g, 0, none⟩) ps.length ps.length, .int .i64 c.bi] W fun e w'' => e = .returned (.tuple #[(ofR (cesOf ps) c.bi).1.val, .int .i64 (ofR (cesOf ps) c.bi).2]) ∧ Kept (fun _ => False) W w'') := fun W g hI => of_any _ _ ps.length (cesOf ps) c.bi W hI (by omega)
  generalize hSG : (ofR (cesOf ps) c.bi).1 = sg at *
  generalize (ofR (cesOf ps) c.bi).2 = ser at *
  obtain ⟨sl0, sh0⟩ := sg
  unfold Sg.val at HOF
  simp only at HOF
  have HCL : Hid (∀ W, St o (ownI 59 2 (.slice (some ⟨gw, 0, none⟩) ps.length cw) ps.length (prCells ps) :: boxI M3 #[.int .i64 c.ce, .int .i64 c.sl, .int .i64 c.bi, .int .i64 c.ta, .int .i64 c.ba, .int .i64 c.de] 23 :: boxI M1 #[.int .i64 (so : Nat), .int .i64 ge, .int .i64 th, .int .i64 sp, .slice (some ⟨gw, 0, none⟩) ps.length cw] 47 :: its) W → W.cell? ⟨M1, 4, none⟩ = some (.slice (some ⟨gw, 0, none⟩) ps.length cw) ∧ W.cell? ⟨M3, 2, none⟩ = some (.int .i64 c.bi)) := fun W s => ⟨s.cell 2 rfl 4, s.cell 1 rfl 2⟩
  have g1 := (HCL.out _ s6').1
  have g2 := (HCL.out _ s6').2
  have y1 := (HCL.out _ (s6'.alloc (.cells #[.int .u64 0, .int .u64 0] 87))).1
  have y2 := (HCL.out _ (s6'.alloc (.cells #[.int .u64 0, .int .u64 0] 87))).2
  have x1 := (HCL.out _ s6'.drew).1
  have x2 := (HCL.out _ s6'.drew).2
  have hA : Calls Tryz.prog 62 #[.slice (some ⟨gw, 0, none⟩) ps.length cw] w6.drew fun e w' => ∃ g, e = .returned (.slice (some ⟨g, 0, none⟩) ps.length ps.length) ∧ w'.cell? ⟨M1, 4, none⟩ = some (.slice (some ⟨gw, 0, none⟩) ps.length cw) ∧ w'.cell? ⟨M3, 2, none⟩ = some (.int .i64 c.bi) ∧ (w'.alloc (.cells #[.int .u64 0, .int .u64 0] 87)).cell? ⟨M1, 4, none⟩ = some (.slice (some ⟨gw, 0, none⟩) ps.length cw) ∧ (w'.alloc (.cells #[.int .u64 0, .int .u64 0] 87)).cell? ⟨M3, 2, none⟩ = some (.int .i64 c.bi) ∧ (Calls Tryz.prog 28 #[.slice (some ⟨g, 0, none⟩) ps.length ps.length, .int .i64 c.bi] w' fun e w'' => e = .returned (.tuple #[.agg #[.int .u64 (sl0 : Nat), .int .u64 (sh0 : Nat)], .int .i64 ser]) ∧ Hid (St o (ownI 59 2 (.slice (some ⟨gw, 0, none⟩) ps.length cw) ps.length (prCells ps) :: boxI M3 #[.int .i64 c.ce, .int .i64 c.sl, .int .i64 c.bi, .int .i64 c.ta, .int .i64 c.ba, .int .i64 c.de] 23 :: boxI M1 #[.int .i64 (so : Nat), .int .i64 ge, .int .i64 th, .int .i64 sp, .slice (some ⟨gw, 0, none⟩) ps.length cw] 47 :: its) w'')) ∧ (Calls Tryz.prog 28 #[.slice (some ⟨g, 0, none⟩) ps.length ps.length, .int .i64 c.bi] (w'.alloc (.cells #[.int .u64 0, .int .u64 0] 87)) fun e w'' => e = .returned (.tuple #[.agg #[.int .u64 (sl0 : Nat), .int .u64 (sh0 : Nat)], .int .i64 ser]) ∧ w''.cell? ⟨w'.heap.size, 0, none⟩ = some (.int .u64 0) ∧ w''.cell? ⟨w'.heap.size, 1, none⟩ = some (.int .u64 0) ∧ w''.frozen? ⟨w'.heap.size, 0, none⟩ = false ∧ w''.frozen? ⟨w'.heap.size, 1, none⟩ = false ∧ Hid (∀ u0 u1 : Value, St o (boxI w'.heap.size #[u0, u1] 87 :: (ownI 59 2 (.slice (some ⟨gw, 0, none⟩) ps.length cw) ps.length (prCells ps) :: boxI M3 #[.int .i64 c.ce, .int .i64 c.sl, .int .i64 c.bi, .int .i64 c.ta, .int .i64 c.ba, .int .i64 c.de] 23 :: boxI M1 #[.int .i64 (so : Nat), .int .i64 ge, .int .i64 th, .int .i64 sp, .slice (some ⟨gw, 0, none⟩) ps.length cw] 47 :: its)) ((w''.setCell ⟨w'.heap.size, 0, none⟩ u0).setCell ⟨w'.heap.size, 1, none⟩ u1))) := by
    refine (HA.out _ s6'.drew).mono ?_
    rintro e w' ⟨g, he, hK, hI⟩
    have sw := s6'.drew.calm hK
    have q := HCL.out _ sw
    have q2 := HCL.out _ (sw.alloc (.cells #[.int .u64 0, .int .u64 0] 87))
    refine ⟨g, he, q.1, q.2, q2.1, q2.2, (HOF.out _ g hI).mono ?_, (HOF.out _ g (hI.kept (kept_alloc w' _))).mono ?_⟩
    · rintro e w'' ⟨he2, hK2⟩
      exact ⟨he2, sw.calm hK2⟩
    · rintro e w'' ⟨he2, hK2⟩
      have sd := (sw.box #[.int .u64 0, .int .u64 0] 87).calm hK2
      exact ⟨he2, sd.cell 0 rfl 0, sd.cell 0 rfl 1, sd.frozen 0 rfl 0, sd.frozen 0 rfl 1, fun u0 u1 => (sd.write 0 rfl 0 u0).write 0 rfl 1 u1⟩
  have hA1 : Calls Tryz.prog 62 #[.slice (some ⟨gw, 0, none⟩) ps.length cw] (w6.alloc (.cells #[.int .u64 0, .int .u64 0] 87)).drew fun e w' => ∃ g, e = .returned (.slice (some ⟨g, 0, none⟩) ps.length ps.length) ∧ w'.cell? ⟨M1, 4, none⟩ = some (.slice (some ⟨gw, 0, none⟩) ps.length cw) ∧ w'.cell? ⟨M3, 2, none⟩ = some (.int .i64 c.bi) ∧ w'.cell? ⟨w6.heap.size, 0, none⟩ = some (.int .u64 0) ∧ w'.cell? ⟨w6.heap.size, 1, none⟩ = some (.int .u64 0) ∧ w'.frozen? ⟨w6.heap.size, 0, none⟩ = false ∧ w'.frozen? ⟨w6.heap.size, 1, none⟩ = false ∧ (Calls Tryz.prog 28 #[.slice (some ⟨g, 0, none⟩) ps.length ps.length, .int .i64 c.bi] w' fun e w'' => e = .returned (.tuple #[.agg #[.int .u64 (sl0 : Nat), .int .u64 (sh0 : Nat)], .int .i64 ser]) ∧ w''.cell? ⟨w6.heap.size, 0, none⟩ = some (.int .u64 0) ∧ w''.cell? ⟨w6.heap.size, 1, none⟩ = some (.int .u64 0) ∧ w''.frozen? ⟨w6.heap.size, 0, none⟩ = false ∧ w''.frozen? ⟨w6.heap.size, 1, none⟩ = false ∧ Hid (∀ u0 u1 : Value, St o (boxI w6.heap.size #[u0, u1] 87 :: (ownI 59 2 (.slice (some ⟨gw, 0, none⟩) ps.length cw) ps.length (prCells ps) :: boxI M3 #[.int .i64 c.ce, .int .i64 c.sl, .int .i64 c.bi, .int .i64 c.ta, .int .i64 c.ba, .int .i64 c.de] 23 :: boxI M1 #[.int .i64 (so : Nat), .int .i64 ge, .int .i64 th, .int .i64 sp, .slice (some ⟨gw, 0, none⟩) ps.length cw] 47 :: its)) ((w''.setCell ⟨w6.heap.size, 0, none⟩ u0).setCell ⟨w6.heap.size, 1, none⟩ u1))) := by
    have sb := (s6'.box #[.int .u64 0, .int .u64 0] 87).drew
    refine (HA.out _ sb.pop).mono ?_
    rintro e w' ⟨g, he, hK, hI⟩
    have sc := sb.calm hK
    have q := HCL.out _ sc.pop
    refine ⟨g, he, q.1, q.2, sc.cell 0 rfl 0, sc.cell 0 rfl 1, sc.frozen 0 rfl 0, sc.frozen 0 rfl 1, (HOF.out _ g hI).mono ?_⟩
    rintro e w'' ⟨he2, hK2⟩
    have sd := sc.calm hK2
    exact ⟨he2, sd.cell 0 rfl 0, sd.cell 0 rfl 1, sd.frozen 0 rfl 0, sd.frozen 0 rfl 1, fun u0 u1 => (sd.write 0 rfl 0 u0).write 0 rfl 1 u1⟩
  clear HA s6' HCL HOF
  go_cut [10] from 14 (fun a W => ∃ H : Nat, a = .pointer (some ⟨H, 0, none⟩) ∧ Hid (St o (boxI H #[.int .u64 (sl0 : Nat), .int .u64 (sh0 : Nat)] 87 :: (ownI 59 2 (.slice (some ⟨gw, 0, none⟩) ps.length cw) ps.length (prCells ps) :: boxI M3 #[.int .i64 c.ce, .int .i64 c.sl, .int .i64 c.bi, .int .i64 c.ta, .int .i64 c.ba, .int .i64 c.de] 23 :: boxI M1 #[.int .i64 (so : Nat), .int .i64 ge, .int .i64 th, .int .i64 sp, .slice (some ⟨gw, 0, none⟩) ps.length cw] 47 :: its)) W))
  case first =>
    go_region_with (first | (go_at_call 62; refine hA.mono ?_; rintro e w7 ⟨g, rfl, d1, d2, d3, d4, hB, hB2⟩) | (go_at_call 62; refine hA1.mono ?_; rintro e w7 ⟨g, rfl, d1, d2, k0, k1, m0, m1, hB1⟩) | (go_at_call 28; refine hB.mono ?_; rintro e w8 ⟨rfl, HA⟩) | (go_at_call 28; refine hB1.mono ?_; rintro e w8 ⟨rfl, k0, k1, m0, m1, HB⟩) | (go_at_call 28; refine hB2.mono ?_; rintro e w8 ⟨rfl, k0, k1, m0, m1, HB⟩))
    all_goals
      go_wp2
      go_meet
      first
      | exact ⟨_, rfl, HA.out.box _ _⟩
      | exact ⟨_, rfl, HB.out (.int .u64 (sl0 : Nat)) (.int .u64 (sh0 : Nat))⟩
  case rest =>
    obtain ⟨H, rfl, HB⟩ := hcut
    have s7 := HB.out
    clear hA hA1 g1 g2 y1 y2 x1 x2 HB
    have q0 : wc.cell? ⟨M1, 0, none⟩ = some (.int .i64 (so : Nat)) := s7.cell 3 rfl 0
    have r0 : wc.cell? ⟨H, 0, none⟩ = some (.int .u64 (sl0 : Nat)) := s7.cell 0 rfl 0
    have r1 : wc.cell? ⟨H, 1, none⟩ = some (.int .u64 (sh0 : Nat)) := s7.cell 0 rfl 1
    have hq : Calls Tryz.prog 63 #[.pointer (some ⟨A.sp, 0, none⟩), .int .i64 (so : Nat), .agg #[.int .u64 (sl0 : Nat), .int .u64 (sh0 : Nat)]] wc _ := lkNew_st s7 (i + 4) hi so ⟨sl0, sh0⟩ (by omega) (by omega)
    clear s7
    go_wp2_with fail
    refine hq.mono ?_
    rintro e w9 ⟨K, vl, rfl, s9⟩
    clear hq q0 r0 r1
    have q0 : w9.cell? ⟨M1, 0, none⟩ = some (.int .i64 (so : Nat)) := s9.cell 4 rfl 0
    have q1 : w9.cell? ⟨M1, 1, none⟩ = some (.int .i64 ge) := s9.cell 4 rfl 1
    have q2 : w9.cell? ⟨M1, 2, none⟩ = some (.int .i64 th) := s9.cell 4 rfl 2
    have q3 : w9.cell? ⟨M1, 3, none⟩ = some (.int .i64 sp) := s9.cell 4 rfl 3
    have q4 : w9.cell? ⟨M1, 4, none⟩ = some (.slice (some ⟨gw, 0, none⟩) ps.length cw) := s9.cell 4 rfl 4
    have sX := s9.box #[.pointer (some ⟨A.sp, 0, none⟩), .pointer (some ⟨J, 0, none⟩), .int .i64 (so : Nat), .int .i64 ge, .int .i64 th, .int .i64 sp, .slice (some ⟨gw, 0, none⟩) ps.length cw, .pointer (some ⟨K, 0, none⟩), .iface 153 (.agg #[]), .int .i64 0, .bool false, .int .i64 0] 157
    have HF : Hid (St o (cmI A ⟨w9.heap.size, J, gw, cw, K⟩ 0 (Cm.new so ge th sp ps ⟨sl0, sh0⟩ z.hs.length) vl (.slice none 0 0) (.slice none 0 0) vl vl :: its) (w9.alloc (.cells #[.pointer (some ⟨A.sp, 0, none⟩), .pointer (some ⟨J, 0, none⟩), .int .i64 (so : Nat), .int .i64 ge, .int .i64 th, .int .i64 sp, .slice (some ⟨gw, 0, none⟩) ps.length cw, .pointer (some ⟨K, 0, none⟩), .iface 153 (.agg #[]), .int .i64 0, .bool false, .int .i64 0] 157))) := by
      have t1 := St.popAt (pre := [_, _]) sX
      have t2 := St.popAt (pre := [_, _, _]) t1
      have t3 := St.popAt (pre := [_, _, _]) t2
      have t4 := t3.nilI
      refine St.unite (l := cmL A ⟨w9.heap.size, J, gw, cw, K⟩ 0 (Cm.new so ge th sp ps ⟨sl0, sh0⟩ z.hs.length) vl (.slice none 0 0) (.slice none 0 0) vl vl) (t4.perm ?_)
      refine (((List.Perm.swap _ _ _).cons _).cons _).trans ?_
      exact (List.perm_middle (l₁ := [_, _, _])).symm
    clear s9 sX
    go_wp2
    go_ret2
    exact ⟨⟨w9.heap.size, J, gw, cw, K⟩, vl, vl, vl, rfl, rfl, by rw [hSG]; exact HF.out⟩
end
end Go.Proofs.YtgjmamgohidbiaaGreat
