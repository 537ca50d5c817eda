/- Looks: together, a head, a word, a step. -/
import Derived.Test.YtpojkkdmlpjfeaaLkA
import Derived.Test.YtpojkkdmlpjfeaaEqS
import Derived.Deep.Cut
import Derived.Deep.CutBlock
import Derived.Deep.RegionLaw
namespace Go.Proofs.Ytpojkkdmlpjfeaa
open Go.RowKit
set_option linter.unusedVariables false
set_option linter.unusedSimpArgs false
attribute [local go_sem ↓] Go.wp_at_zero Go.wp_at_succ

section
variable {o w : World} {its R : List It} {A : Ad} {c : Cfg} {z : SSt} {v u : Value} {K t : Nat} {k : Lk} {vl vd vv : Value}
theorem spLook (h : St o its w) (i : Nat) (hi : its[i]? = some (spI A c z v u)) {n : Nat} (ok : z.ok c n) (hn : n ≤ 4611686018427) (j : Int) : Calls Try.prog 27 #[.pointer (some ⟨A.t, 0, none⟩), .int .i64 j] w fun e w' => e = .returned (.tuple #[(nowAt z.hs j).val, .int .i64 (lookE z.hs j)]) ∧ ∃ v', St o (its.set i (spI A c (z.look j) v' u)) w' := by
  refine (tabLook_st (h.open i hi) 7 3 5 spAt7 spAt3 spAt5 (by omega) ok.met hn j).mono ?_
  rintro e w' ⟨he, v', h'⟩
  exact ⟨he, v', St.shut (l := spL A c (z.look j) v' u) hi h'⟩

theorem lkSet (i : Nat) (X : It) : (lkL K t k vl vd vv ++ R).set (4 + i) X = lkL K t k vl vd vv ++ R.set i X := by
  rw [List.set_append_right _ _ (by simp [lkL])]
  congr 1
  simp [lkL]
theorem lkGet {i : Nat} {X : It} (h : R[i]? = some X) : (lkL K t k vl vd vv ++ R)[4 + i]? = some X := by
  rw [List.getElem?_append_right (by simp [lkL])]
  simpa [lkL] using h

set_option maxRecDepth 100000 in
set_option maxHeartbeats 1000000 in
theorem lkHead0 (h : St o (lkL K A.t k vl vd vv ++ R) w) (i : Nat) (hi : R[i]? = some (spI A c z v u)) {n : Nat} (ok : z.ok c n) (hn : n ≤ 4611686018427) (hk : k.fit) {s : Nat} {l : List Nat} (hl : k.left = s :: l) :
    Calls Try.prog 36 #[.pointer (some ⟨K, 0, none⟩)] w fun e w' => e = .returned (.tuple #[]) ∧ ∃ v' vl' vd', St o (lkL K A.t (k.head s (nowAt z.hs s)) vl' vd' vv ++ R.set i (spI A c (z.look s) v' u)) w' := by
  have hq := spLook h (4 + i) (lkGet hi) ok hn s
  obtain ⟨g, off, cap, hvl, hcap, hlen, hcs⟩ := h.tailForm 1 lkAt1 (by rw [hl]; simp)
  have cg : w.cell? ⟨g, off, none⟩ = some (.int .i64 (s : Nat)) := by
    have := hcs 0 (.int .i64 (s : Nat)) (by rw [hl]; rfl)
    simpa using this
  have c0 : w.cell? ⟨K, 0, none⟩ = some (.pointer (some ⟨A.t, 0, none⟩)) := lkCell h 0
  have c3 : w.cell? ⟨K, 3, none⟩ = some vl := lkCell h 3
  have h1 : (0 : Int) < (k.left.length : Int) := by rw [hl]; simp
  rw [hvl] at c3
  clear hvl hcs hlen hcap
  generalize k.left.length = nl at *
  generalize hH : nowAt z.hs s = H at *
  have HP : Hid (∀ v' W, St o (lkL K A.t k vl vd vv ++ R.set i (spI A c (z.look s) v' u)) W → Calls Try.prog 58 #[.pointer (some ⟨K, 0, none⟩)] W fun e w' => e = .returned (.tuple #[]) ∧ ∃ vl', St o (lkL K A.t k.pass vl' (.slice none 0 0) vv ++ R.set i (spI A c (z.look s) v' u)) w') := fun v' W hW => lkPass0 hW (by rw [hl]; simp)
  have HS : Hid (∀ v', (lkL K A.t k vl vd vv ++ R).set (4 + i) (spI A c (z.look s) v' u) = lkL K A.t k vl vd vv ++ R.set i (spI A c (z.look s) v' u)) := fun v' => lkSet i _
  clear h hi ok hl
  generalize lookE z.hs s = LE at *
  obtain ⟨hg, hs, hp, ht, hd, hb⟩ := H
  have HW : Hid (Lk.head k s ⟨hg, hs, hp, ht, hd, hb⟩ = if (hs == 2) && !hd then { k with met := ⟨s, hg, hp, ht⟩, inW := true } else k.pass) := rfl
  unfold Hd.val at hq
  simp only at hq
  go_enter Try.func36, Try.ntmps36
  go_wp2_with fail
  refine hq.mono ?_
  rintro e w2 ⟨rfl, v', s2⟩
  clear hq c0 c3 cg
  rw [HS.out] at s2
  have s3 := s2.box #[.int .i64 hg, .int .i64 hs, .int .i64 hp, .int .i64 ht, .bool hd, .int .i64 hb] 44
  have s5 : St o (lkL K A.t k vl vd vv ++ R.set i (spI A c (z.look s) v' u)) (w2.alloc (.cells #[.int .i64 hg, .int .i64 hs, .int .i64 hp, .int .i64 ht, .bool hd, .int .i64 hb] 44)) := s2.alloc _
  go_upto_region 2 with fail
  generalize w2.alloc (.cells #[.int .i64 hg, .int .i64 hs, .int .i64 hp, .int .i64 ht, .bool hd, .int .i64 hb] 44) = w3 at *
  generalize w2.heap.size = M at *
  have b0 : w3.cell? ⟨M, 0, none⟩ = some (.int .i64 hg) := s3.cell 0 rfl 0
  have b1 : w3.cell? ⟨M, 1, none⟩ = some (.int .i64 hs) := s3.cell 0 rfl 1
  have b2 : w3.cell? ⟨M, 2, none⟩ = some (.int .i64 hp) := s3.cell 0 rfl 2
  have b3 : w3.cell? ⟨M, 3, none⟩ = some (.int .i64 ht) := s3.cell 0 rfl 3
  have b4 : w3.cell? ⟨M, 4, none⟩ = some (.bool hd) := s3.cell 0 rfl 4
  clear s2 s3
  cases h2 : hs == 2 with
  | false =>
    have hne : (hs != 2) = true := by simp [bne, h2]
    have hq := HP.out _ _ s5
    clear s5 HP HS
    go_wp2_with fail
    refine hq.mono ?_
    rintro e w4 ⟨rfl, vl', s4⟩
    have H4 : Hid _ := s4
    clear hq s4
    go_wp2
    ((try simp only [Exit.inBlock, Exit.then]); refine bodyPost_ret (results_none rfl _ _ _) rfl ?_)
    refine ⟨rfl, v', vl', .slice none 0 0, ?_⟩
    rw [HW.out, h2]
    exact H4.out
  | true =>
    have hne : (hs != 2) = false := by simp [bne, h2]
    cases hd with
    | true =>
      have hq := HP.out _ _ s5
      clear s5 HP HS
      go_wp2_with fail
      refine hq.mono ?_
      rintro e w4 ⟨rfl, vl', s4⟩
      have H4 : Hid _ := s4
      clear hq s4
      go_wp2
      ((try simp only [Exit.inBlock, Exit.then]); refine bodyPost_ret (results_none rfl _ _ _) rfl ?_)
      refine ⟨rfl, v', vl', .slice none 0 0, ?_⟩
      rw [HW.out, h2]
      exact H4.out
    | false =>
      clear HP HS
      obtain ⟨wr, left, iw, ⟨m0, m1, m2, m3⟩, ld, vs⟩ := k
      have c4 : w3.cell? ⟨K, 4, none⟩ = some (.bool iw) := lkCell s5 4
      have c5 : w3.cell? ⟨K, 5, none⟩ = some (.int .i64 m0) := lkCell s5 5
      have c6 : w3.cell? ⟨K, 6, none⟩ = some (.int .i64 m1) := lkCell s5 6
      have c7 : w3.cell? ⟨K, 7, none⟩ = some (.int .i64 m2) := lkCell s5 7
      have c8 : w3.cell? ⟨K, 8, none⟩ = some (.int .i64 m3) := lkCell s5 8
      have f4 := lkFrozen s5 4
      have f5 := lkFrozen s5 5
      have f6 := lkFrozen s5 6
      have f7 := lkFrozen s5 7
      have f8 := lkFrozen s5 8
      have HF : Hid (St o (lkL K A.t ⟨wr, left, true, ⟨s, hg, hp, ht⟩, ld, vs⟩ vl vd vv ++ R.set i (spI A c (z.look s) v' u)) (((((w3.setCell ⟨K, 5, none⟩ (.int .i64 (s : Nat))).setCell ⟨K, 6, none⟩ (.int .i64 hg)).setCell ⟨K, 7, none⟩ (.int .i64 hp)).setCell ⟨K, 8, none⟩ (.int .i64 ht)).setCell ⟨K, 4, none⟩ (.bool true))) := by
        have a1 := s5.write 0 lkAt0 5 (.int .i64 (s : Nat))
        have a2 := a1.write 0 rfl 6 (.int .i64 hg)
        have a3 := a2.write 0 rfl 7 (.int .i64 hp)
        have a4 := a3.write 0 rfl 8 (.int .i64 ht)
        exact a4.write 0 rfl 4 (.bool true)
      clear s5
      go_wp2
      go_end0
      refine ⟨rfl, v', vl, vd, ?_⟩
      rw [HW.out, h2]
      exact HF.out

set_option maxRecDepth 100000 in
set_option maxHeartbeats 1000000 in
theorem lkTogether (a b : Nat) (g cap : Nat) (w : World) (c0 : w.cell? ⟨g, 0, none⟩ = some (.int .u64 (a : Nat))) (c1 : w.cell? ⟨g, 1, none⟩ = some (.int .u64 (b : Nat))) :
    Calls Try.prog 57 #[.slice (some ⟨g, 0, none⟩) 2 cap] w fun e w' => e = .returned (Sg.val ⟨a, b⟩) ∧ Kept (fun _ => False) w w' := by
  have lg : g < w.heap.size := World.block_lt_of_cell? w _ c0
  unfold Sg.val
  simp only
  go_enter Try.func57, Try.ntmps57
  go_wp2_with fail
  generalize hW : (w.alloc (.cells #[.int .u64 0, .int .u64 0] 24)).alloc (.cells #[.int .u64 0, .int .u64 0] 24) = W
  obtain ⟨A, B, K⟩ := pair_new w hW
  have d0 : W.cell? ⟨g, 0, none⟩ = some (.int .u64 (a : Nat)) := by rw [← c0]; exact World.cell?_of_block (K.block g lg (fun f => f))
  have d1 : W.cell? ⟨g, 1, none⟩ = some (.int .u64 (b : Nat)) := by rw [← c1]; exact World.cell?_of_block (K.block g lg (fun f => f))
  clear hW c0 c1
  have HM : ∃ m, Hid (w.heap.size = m) := ⟨_, rfl⟩
  obtain ⟨m, HM⟩ := HM
  rw [HM.out] at A B lg ⊢
  go_loopw [5] (fun i wr => (i = .int .i64 0 ∧ wr = W) ∨ (i = .int .i64 1 ∧ wr = W.setCell ⟨m + 1, 0, none⟩ (.int .u64 a)) ∨ (i = .int .i64 2 ∧ wr = (W.setCell ⟨m + 1, 0, none⟩ (.int .u64 a)).setCell ⟨m + 1, 1, none⟩ (.int .u64 b))) (fun i _ => 2 - (intOf i).toNat)
  case atStart => exact .inl ⟨rfl, rfl⟩
  case round =>
    rcases hrel with ⟨rfl, rfl⟩ | ⟨rfl, rfl⟩ | ⟨rfl, rfl⟩
    · have x0 := B.c0; have x1 := B.f0
      simp only [Sg.zero] at x0
      clear A B K lg d1
      go_wp2_with fail
      go_roundw
      case rel => exact .inr (.inl ⟨rfl, trivial⟩)
      case measure => simp [intOf]
    · have A1 : (W.setCell ⟨m + 1, 0, none⟩ (.int .u64 a)).heap[m + 1]? = some (.cells #[.int .u64 a, .int .u64 0] 24 (0, 0)) := heap_setCell_at B _
      have x0 : (W.setCell ⟨m + 1, 0, none⟩ (.int .u64 a)).cell? ⟨m + 1, 1, none⟩ = some (.int .u64 0) := cell_of_heap A1
      have x1 : (W.setCell ⟨m + 1, 0, none⟩ (.int .u64 a)).frozen? ⟨m + 1, 1, none⟩ = false := frozen_of_heap A1
      have x2 : (W.setCell ⟨m + 1, 0, none⟩ (.int .u64 a)).cell? ⟨g, 1, none⟩ = some (.int .u64 b) := by rw [World.cell?_of_block (heap_setCell_far (show g ≠ m + 1 by omega))]; exact d1
      generalize W.setCell ⟨m + 1, 0, none⟩ (.int .u64 a) = W1 at *
      clear A B K lg d0 d1 A1
      go_wp2_with fail
      go_roundw
      case rel => exact .inr (.inr ⟨rfl, trivial⟩)
      case measure => simp [intOf]
    · have B2 := B.set ⟨a, b⟩
      have hm := HM.out
      have K2 := (K.setCell (p := ⟨m + 1, 0, none⟩) (.int .u64 a) (.inr (by rw [hm]; simp))).setCell (p := ⟨m + 1, 1, none⟩) (.int .u64 b) (.inr (by rw [hm]; simp))
      have C2 : Box ((W.setCell ⟨m + 1, 0, none⟩ (.int .u64 a)).setCell ⟨m + 1, 1, none⟩ (.int .u64 b)) m Sg.zero := (A.far (by simp)).far (by simp)
      simp only at B2
      generalize (W.setCell ⟨m + 1, 0, none⟩ (.int .u64 a)).setCell ⟨m + 1, 1, none⟩ (.int .u64 b) = W2 at *
      have x0 := B2.c0; have x1 := B2.c1; have x2 := C2.c0; have x3 := C2.c1; have x4 := C2.f0; have x5 := C2.f1
      simp only [Sg.zero] at x0 x1 x2 x3
      clear hm A B K lg d0 d1
      go_wp2_with fail
      have hB := C2.set ⟨a, b⟩
      have K3 := (K2.setCell (p := ⟨m, 0, none⟩) (.int .u64 a) (.inr (by rw [HM.out]; simp))).setCell (p := ⟨m, 1, none⟩) (.int .u64 b) (.inr (by rw [HM.out]; simp))
      have y0 := hB.c0; have y1 := hB.c1
      simp only at y0 y1 hB
      exact bodyPost_ret (v := .agg #[.int .u64 a, .int .u64 b]) (by simp [results, Try.results57, go_sem, y0, y1]) rfl ⟨rfl, K3⟩
end
end Go.Proofs.Ytpojkkdmlpjfeaa
