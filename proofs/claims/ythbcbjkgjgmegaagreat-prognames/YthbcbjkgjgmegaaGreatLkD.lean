/- Looks: a word; a step; what is made. Looks: what is made; looks among other things. -/
import Derived.Test.YthbcbjkgjgmegaaGreatLkB
import Derived.Deep.RegionHeld3
import Derived.Maps.AppendAt
namespace Go.Proofs.YthbcbjkgjgmegaaGreat
open Go.RowKit
set_option linter.unusedVariables false
set_option linter.unusedSimpArgs false
attribute [local go_sem ↓] Go.wp_at_zero Go.wp_at_succ

section
variable {o w : World} {its R : List It} {A : Ad} {c : Cfg} {z : SSt} {v u : Value} {K t : Nat} {k : Lk} {vl vd vv : Value}
/-- An own list behind an append of one. -/
theorem St.growAt {w2 w1 : World} (h : St o its w2) (i : Nat) {e : TypeId} {sz n n' g cap : Nat} {v : Value} {xs xs' : List Value} {ob : Obj} (hi : its[i]? = some (ownI e sz v n xs)) (hown : w1.ownsRow 0 e sz (.slice (some ⟨g, 0, none⟩) n' cap) n' xs') (hgrow : (w2.alloc ob).grownBy w1 v.ownBlock) (hat : v.ownBlock = some g ∨ g = w2.heap.size + 1) : St o (its.set i (ownI e sz (.slice (some ⟨g, 0, none⟩) n' cap) n' xs')) w1 := by
  refine h.ownGrow i hi hown (((Kept.refl _ w2).alloc ob).grown hgrow (fun k e => .inl e)) ?_
  rcases hat with e | e
  · exact .inl (by rw [e]; rfl)
  · exact .inr ⟨g, rfl, by omega⟩
theorem St.growAtD {w2 w1 : World} (h : St o its w2) (i : Nat) {e : TypeId} {sz n n' g cap : Nat} {v : Value} {xs xs' : List Value} {ob : Obj} (hi : its[i]? = some (ownI e sz v n xs)) (hown : w1.ownsRow 0 e sz (.slice (some ⟨g, 0, none⟩) n' cap) n' xs') (hgrow : ((w2.alloc ob).drew).grownBy w1 v.ownBlock) (hat : v.ownBlock = some g ∨ g = w2.heap.size + 1) : St o (its.set i (ownI e sz (.slice (some ⟨g, 0, none⟩) n' cap) n' xs')) w1 := by
  refine h.ownGrow i hi hown ((((Kept.refl _ w2).alloc ob).drew).grown hgrow (fun k e => .inl e)) ?_
  rcases hat with e | e
  · exact .inl (by rw [e]; rfl)
  · exact .inr ⟨g, rfl, by omega⟩
theorem buildVt (W : World) (a b c d : Int) : (Instr.buildSlice 367 1 #[(0, .agg #[.int .i64 a, .int .i64 b, .int .i64 c, .int .i64 d])]).run Tryz.prog W = .ok (.slice (some ⟨W.heap.size, 0, none⟩) 1 1) (W.alloc (.cells #[.int .i64 a, .int .i64 b, .int .i64 c, .int .i64 d] 374)) := by kernel_rfl
/-- Behind the append the victim is among those met. -/
theorem lkVs {w2 w1 : World} {g cap : Nat} {ob : Obj} (h : St o (lkL K t k vl vd vv ++ R) w2) (hown : w1.ownsRow 0 374 4 (.slice (some ⟨g, 0, none⟩) (k.vs.length + 1) cap) (k.vs.length + 1) (vtCells k.vs ++ k.met.cells)) (hgrow : ((w2.alloc ob).drew).grownBy w1 vv.ownBlock) (hat : vv.ownBlock = some g ∨ g = w2.heap.size + 1) :
    St o (lkL K t { k with vs := k.vs ++ [k.met] } vl vd (.slice (some ⟨g, 0, none⟩) (k.vs.length + 1) cap) ++ R) (w1.setCell ⟨K, 10, none⟩ (.slice (some ⟨g, 0, none⟩) (k.vs.length + 1) cap)) := by
  have e : vtCells (k.vs ++ [k.met]) = vtCells k.vs ++ k.met.cells := by rw [vtCells_append]; simp [vtCells]
  rw [← e] at hown
  have el : (k.vs ++ [k.met]).length = k.vs.length + 1 := by simp
  have a1 := h.growAtD 3 lkAt3 hown hgrow hat
  have a2 := a1.write 0 rfl 10 (.slice (some ⟨g, 0, none⟩) (k.vs.length + 1) cap)
  show St o (_ :: _ :: _ :: ownI 374 4 (.slice (some ⟨g, 0, none⟩) (k.vs.length + 1) cap) (k.vs ++ [k.met]).length (vtCells (k.vs ++ [k.met])) :: R) _
  rw [el]
  exact a2
theorem lkVsCell {w2 w1 : World} {g cap : Nat} {ob : Obj} (h : St o (lkL K t k vl vd vv ++ R) w2) (hown : w1.ownsRow 0 374 4 (.slice (some ⟨g, 0, none⟩) (k.vs.length + 1) cap) (k.vs.length + 1) (vtCells k.vs ++ k.met.cells)) (hgrow : ((w2.alloc ob).drew).grownBy w1 vv.ownBlock) (hat : vv.ownBlock = some g ∨ g = w2.heap.size + 1) : w1.cell? ⟨K, 10, none⟩ = some vv ∧ w1.frozen? ⟨K, 10, none⟩ = false :=
  ⟨(h.growAtD 3 lkAt3 hown hgrow hat).cell 0 rfl 10, (h.growAtD 3 lkAt3 hown hgrow hat).frozen 0 rfl 10⟩
/-- A word more. -/
theorem lkLd {w2 w1 : World} {g cap x : Nat} {ob : Obj} (h : St o (lkL K t k vl vd vv ++ R) w2) (hown : w1.ownsRow 0 128 1 (.slice (some ⟨g, 0, none⟩) (k.ld.length + 1) cap) (k.ld.length + 1) (wCells k.ld ++ [.int .u64 (x : Nat)])) (hgrow : (w2.alloc ob).grownBy w1 vd.ownBlock) (hat : vd.ownBlock = some g ∨ g = w2.heap.size + 1) :
    St o (lkL K t { k with ld := k.ld ++ [x] } vl (.slice (some ⟨g, 0, none⟩) (k.ld.length + 1) cap) vv ++ R) (w1.setCell ⟨K, 9, none⟩ (.slice (some ⟨g, 0, none⟩) (k.ld.length + 1) cap)) ∧ w1.cell? ⟨K, 9, none⟩ = some vd ∧ w1.frozen? ⟨K, 9, none⟩ = false := by
  have e : wCells (k.ld ++ [x]) = wCells k.ld ++ [.int .u64 (x : Nat)] := by simp [wCells]
  rw [← e] at hown
  have el : (k.ld ++ [x]).length = k.ld.length + 1 := by simp
  have a1 := h.growAt 2 lkAt2 hown hgrow hat
  refine ⟨?_, a1.cell 0 rfl 9, a1.frozen 0 rfl 9⟩
  have a2 := a1.write 0 rfl 9 (.slice (some ⟨g, 0, none⟩) (k.ld.length + 1) cap)
  show St o (_ :: _ :: ownI 128 1 (.slice (some ⟨g, 0, none⟩) (k.ld.length + 1) cap) (k.ld ++ [x]).length (wCells (k.ld ++ [x])) :: _ :: R) _
  rw [el]
  exact a2

set_option maxRecDepth 100000 in
set_option maxHeartbeats 2000000 in
theorem lkWordA (h : St o (lkL K A.t k vl vd vv ++ R) w) (i : Nat) (hi : R[i]? = some (spI A c z v u)) {n : Nat} (ok : z.ok c n) (hn : n ≤ 4611686018427) (hk : k.fit) (h0 : k.left ≠ []) {x : Nat} (hx : wordR z.ws z.hs.length k.met.so k.ld.length = (x : Nat)) (hx2 : x < 18446744073709551616) (hld : k.ld = []) :
    Calls Tryz.prog 415 #[.pointer (some ⟨K, 0, none⟩)] w fun e w' => e = .returned (.tuple #[]) ∧ ∃ v' vl' vd' vv', St o (lkL K A.t (k.word x) vl' vd' vv' ++ R.set i (spI A c (z.word k.met.so k.ld.length) v' u)) w' := by
  obtain ⟨i0, hi0, hz0, hz1, hz2⟩ := info_parts Tryz.infoS64
  obtain ⟨j0, hj0, hy0, hy1, hy2⟩ := info_parts Tryz.infoVt
  have HWR := hk.wr
  have HLW : Hid (∀ y, y ∈ k.ld → y < 18446744073709551616) := hk.lw
  have HVN : k.vs.length ≤ 8 := by have := hk.vn; omega
  clear hk
  obtain ⟨wr, left, iw, ⟨m0, m1, m2, m3⟩, ld, vs⟩ := k
  simp only at hld
  subst hld
  obtain ⟨a, cp, rfl⟩ := own_form (show w.ownsRow 0 128 1 vd 0 (wCells []) from h.get 2 lkAt2)
  have hq := spWord (h.drew) (4 + i) (lkGet hi) ok hn m0 0
  have hx' : wordR z.ws z.hs.length m0 0 = (x : Nat) := hx
  rw [hx'] at hq
  have c0 : w.cell? ⟨K, 0, none⟩ = some (.pointer (some ⟨A.t, 0, none⟩)) := lkCell h 0
  have c5 : w.cell? ⟨K, 5, none⟩ = some (.int .i64 m0) := lkCell h 5
  have c9 : w.cell? ⟨K, 9, none⟩ = some (.slice a 0 cp) := lkCell h 9
  have hq1 : Calls Tryz.prog 417 #[.pointer (some ⟨A.t, 0, none⟩), .int .i64 m0, .int .i64 0] w.drew fun e w' => ∃ E, e = .returned (.tuple #[.int .u64 (x : Nat), .int .i64 E]) ∧ (w'.cell? ⟨K, 0, none⟩ = some (.pointer (some ⟨A.t, 0, none⟩)) ∧ w'.cell? ⟨K, 5, none⟩ = some (.int .i64 m0) ∧ w'.cell? ⟨K, 9, none⟩ = some (.slice a 0 cp)) ∧ ∃ v', Hid (St o (lkL K A.t ⟨wr, left, iw, ⟨m0, m1, m2, m3⟩, [], vs⟩ vl (.slice a 0 cp) vv ++ R.set i (spI A c (z.word m0 0) v' u)) w') := by
    refine hq.mono ?_
    rintro e w' ⟨he, v', h'⟩
    rw [lkSet] at h'
    exact ⟨_, he, ⟨lkCell h' 0, lkCell h' 5, lkCell h' 9⟩, v', h'⟩
  have HG : Hid (∀ e w', (e = Ending.returned (.tuple #[]) ∧ ∃ v' vl' vd' vv', St o (lkL K A.t (Lk.word ⟨wr, left, iw, ⟨m0, m1, m2, m3⟩, [], vs⟩ x) vl' vd' vv' ++ R.set i (spI A c (z.word m0 0) v' u)) w') → (e = Ending.returned (.tuple #[]) ∧ ∃ v' vl' vd' vv', St o (lkL K A.t (Lk.word ⟨wr, left, iw, ⟨m0, m1, m2, m3⟩, [], vs⟩ x) vl' vd' vv' ++ R.set i (spI A c (z.word m0 (([] : List Nat).length : Nat)) v' u)) w')) := fun e w' hh => hh
  refine Calls.mono ?_ HG.out
  clear h hq hi ok hx hx' HG
  generalize z.word m0 0 = z' at *
  go_enter Tryz.func415, Tryz.ntmps415
  go_upto_region 0 with fail
  go_region_held3 (fun W => W.cell? ⟨K, 0, none⟩ = some (.pointer (some ⟨A.t, 0, none⟩)) ∧ W.cell? ⟨K, 5, none⟩ = some (.int .i64 m0) ∧ W.cell? ⟨K, 9, none⟩ = some (.slice a 0 cp)) (first | go_keep | exact rS)
    (first | (go_at_call 417; refine hq1.mono ?_; rintro e w2 ⟨E, rfl, rS, v', HS⟩))
  clear hq1 c0 c5 c9
  obtain ⟨_, _, c9⟩ := rS
  have f9 := lkFrozen HS.out 9
  have hown2 : w2.ownsRow 0 128 1 (.slice a 0 cp) 0 (wCells []) := HS.out.get 2 lkAt2
  have HL : Hid (∀ g cap w1, w1.ownsRow 0 128 1 (.slice (some ⟨g, 0, none⟩) 1 cap) 1 (wCells [] ++ [.int .u64 (x : Nat)]) → (w2.alloc (.cells #[.int .u64 (x : Nat)] 128)).grownBy w1 (Value.ownBlock (.slice a 0 cp)) → (Value.ownBlock (.slice a 0 cp) = some g ∨ g = w2.heap.size + 1) →
      St o (lkL K A.t ⟨wr, left, iw, ⟨m0, m1, m2, m3⟩, [x], vs⟩ vl (.slice (some ⟨g, 0, none⟩) 1 cap) vv ++ R.set i (spI A c z' v' u)) (w1.setCell ⟨K, 9, none⟩ (.slice (some ⟨g, 0, none⟩) 1 cap)) ∧ w1.cell? ⟨K, 9, none⟩ = some (.slice a 0 cp) ∧ w1.frozen? ⟨K, 9, none⟩ = false) := by
    intro g cap w1 p1 p2 p3
    exact lkLd (k := ⟨wr, left, iw, ⟨m0, m1, m2, m3⟩, [], vs⟩) HS.out p1 p2 p3
  clear HS
  go_upto_region 2 with (at_builtin; refine wpList_append_lies _ rfl (.tmp 26) (.tmp 28) 244 rfl 0 128 i0 _ 1 8 Tryz.underlying244 hi0 hz0 hz1 hz2 rfl (by omega) _ 0 (wCells []) rfl (hown2.alloc _) ⟨w2.heap.size, 0, none⟩ 1 1 [.int .u64 (x : Nat)] rfl (by simp) (World.news_of_block (cs := #[.int .u64 (x : Nat)]) (t := 128) (fr := (0, 0)) (heap_alloc_new w2 _)) (by simp [Value.oneCell']) (by omega) (by unfold maxLen; omega) (by omega) (Nat.zero_le _) (w2.heap.size + 1) (by simp) ?_; intro g cap w3 hown3 hgrow3 hat3 hlt3; obtain ⟨s3, d9, e9⟩ := HL.out g cap w3 hown3 hgrow3 hat3; have HO : Hid _ := hown3; clear HL hown3 hgrow3 hat3 hlt3)
  clear f9 c9 hown2 d9 e9
  have c9 : (w3.setCell ⟨K, 9, none⟩ (.slice (some ⟨g, 0, none⟩) 1 cap)).cell? ⟨K, 9, none⟩ = some (.slice (some ⟨g, 0, none⟩) 1 cap) := lkCell s3 9
  generalize w3.setCell ⟨K, 9, none⟩ (.slice (some ⟨g, 0, none⟩) 1 cap) = w4 at *
  have HF : Hid _ := s3
  clear s3
  simp only [Nat.zero_add] at *
  go_wp2
  ((try simp only [Exit.inBlock, Exit.then]); refine bodyPost_ret (results_none rfl _ _ _) rfl ?_)
  exact ⟨rfl, v', vl, _, vv, HF.out⟩

set_option maxRecDepth 100000 in
set_option maxHeartbeats 2000000 in
theorem lkWordB (h : St o (lkL K A.t k vl vd vv ++ R) w) (i : Nat) (hi : R[i]? = some (spI A c z v u)) {n : Nat} (ok : z.ok c n) (hn : n ≤ 4611686018427) (hk : k.fit) (h0 : k.left ≠ []) {x : Nat} (hx : wordR z.ws z.hs.length k.met.so k.ld.length = (x : Nat)) (hx2 : x < 18446744073709551616) {a0 : Nat} (hld : k.ld = [a0]) :
    Calls Tryz.prog 415 #[.pointer (some ⟨K, 0, none⟩)] w fun e w' => e = .returned (.tuple #[]) ∧ ∃ v' vl' vd' vv', St o (lkL K A.t (k.word x) vl' vd' vv' ++ R.set i (spI A c (z.word k.met.so k.ld.length) v' u)) w' := by
  obtain ⟨i0, hi0, hz0, hz1, hz2⟩ := info_parts Tryz.infoS64
  obtain ⟨j0, hj0, hy0, hy1, hy2⟩ := info_parts Tryz.infoVt
  have HWR := hk.wr
  have HLW : Hid (∀ y, y ∈ k.ld → y < 18446744073709551616) := hk.lw
  have HVN : k.vs.length ≤ 8 := by have := hk.vn; omega
  clear hk
  obtain ⟨wr, left, iw, ⟨m0, m1, m2, m3⟩, ld, vs⟩ := k
  simp only at hld
  subst hld
  obtain ⟨a, cp, rfl⟩ := own_form (show w.ownsRow 0 128 1 vd 1 (wCells [a0]) from h.get 2 lkAt2)
  have hq := spWord (h.drew) (4 + i) (lkGet hi) ok hn m0 1
  have hx' : wordR z.ws z.hs.length m0 1 = (x : Nat) := hx
  rw [hx'] at hq
  have c0 : w.cell? ⟨K, 0, none⟩ = some (.pointer (some ⟨A.t, 0, none⟩)) := lkCell h 0
  have c5 : w.cell? ⟨K, 5, none⟩ = some (.int .i64 m0) := lkCell h 5
  have c9 : w.cell? ⟨K, 9, none⟩ = some (.slice a 1 cp) := lkCell h 9
  have hq1 : Calls Tryz.prog 417 #[.pointer (some ⟨A.t, 0, none⟩), .int .i64 m0, .int .i64 1] w.drew fun e w' => ∃ E, e = .returned (.tuple #[.int .u64 (x : Nat), .int .i64 E]) ∧ (w'.cell? ⟨K, 0, none⟩ = some (.pointer (some ⟨A.t, 0, none⟩)) ∧ w'.cell? ⟨K, 5, none⟩ = some (.int .i64 m0) ∧ w'.cell? ⟨K, 9, none⟩ = some (.slice a 1 cp)) ∧ ∃ v', Hid (St o (lkL K A.t ⟨wr, left, iw, ⟨m0, m1, m2, m3⟩, [a0], vs⟩ vl (.slice a 1 cp) vv ++ R.set i (spI A c (z.word m0 1) v' u)) w') := by
    refine hq.mono ?_
    rintro e w' ⟨he, v', h'⟩
    rw [lkSet] at h'
    exact ⟨_, he, ⟨lkCell h' 0, lkCell h' 5, lkCell h' 9⟩, v', h'⟩
  have HG : Hid (∀ e w', (e = Ending.returned (.tuple #[]) ∧ ∃ v' vl' vd' vv', St o (lkL K A.t (Lk.word ⟨wr, left, iw, ⟨m0, m1, m2, m3⟩, [a0], vs⟩ x) vl' vd' vv' ++ R.set i (spI A c (z.word m0 1) v' u)) w') → (e = Ending.returned (.tuple #[]) ∧ ∃ v' vl' vd' vv', St o (lkL K A.t (Lk.word ⟨wr, left, iw, ⟨m0, m1, m2, m3⟩, [a0], vs⟩ x) vl' vd' vv' ++ R.set i (spI A c (z.word m0 (([a0] : List Nat).length : Nat)) v' u)) w')) := fun e w' hh => hh
  refine Calls.mono ?_ HG.out
  clear h hq hi ok hx hx' HG
  generalize z.word m0 1 = z' at *
  go_enter Tryz.func415, Tryz.ntmps415
  go_upto_region 0 with fail
  go_region_held3 (fun W => W.cell? ⟨K, 0, none⟩ = some (.pointer (some ⟨A.t, 0, none⟩)) ∧ W.cell? ⟨K, 5, none⟩ = some (.int .i64 m0) ∧ W.cell? ⟨K, 9, none⟩ = some (.slice a 1 cp)) (first | go_keep | exact rS)
    (first | (go_at_call 417; refine hq1.mono ?_; rintro e w2 ⟨E, rfl, rS, v', HS⟩))
  clear hq1 c0 c5 c9
  obtain ⟨_, _, c9⟩ := rS
  have f9 := lkFrozen HS.out 9
  have hown2 : w2.ownsRow 0 128 1 (.slice a 1 cp) 1 (wCells [a0]) := HS.out.get 2 lkAt2
  have HL : Hid (∀ g cap w1, w1.ownsRow 0 128 1 (.slice (some ⟨g, 0, none⟩) 2 cap) 2 (wCells [a0] ++ [.int .u64 (x : Nat)]) → (w2.alloc (.cells #[.int .u64 (x : Nat)] 128)).grownBy w1 (Value.ownBlock (.slice a 1 cp)) → (Value.ownBlock (.slice a 1 cp) = some g ∨ g = w2.heap.size + 1) →
      St o (lkL K A.t ⟨wr, left, iw, ⟨m0, m1, m2, m3⟩, [a0, x], vs⟩ vl (.slice (some ⟨g, 0, none⟩) 2 cap) vv ++ R.set i (spI A c z' v' u)) (w1.setCell ⟨K, 9, none⟩ (.slice (some ⟨g, 0, none⟩) 2 cap)) ∧ w1.cell? ⟨K, 9, none⟩ = some (.slice a 1 cp) ∧ w1.frozen? ⟨K, 9, none⟩ = false) := by
    intro g cap w1 p1 p2 p3
    exact lkLd (k := ⟨wr, left, iw, ⟨m0, m1, m2, m3⟩, [a0], vs⟩) HS.out p1 p2 p3
  clear HS
  go_upto_region 2 with (at_builtin; refine wpList_append_lies _ rfl (.tmp 26) (.tmp 28) 244 rfl 0 128 i0 _ 1 8 Tryz.underlying244 hi0 hz0 hz1 hz2 rfl (by omega) _ 1 (wCells [a0]) rfl (hown2.alloc _) ⟨w2.heap.size, 0, none⟩ 1 1 [.int .u64 (x : Nat)] rfl (by simp) (World.news_of_block (cs := #[.int .u64 (x : Nat)]) (t := 128) (fr := (0, 0)) (heap_alloc_new w2 _)) (by simp [Value.oneCell']) (by omega) (by unfold maxLen; omega) (by omega) (Nat.zero_le _) (w2.heap.size + 1) (by simp) ?_; intro g cap w3 hown3 hgrow3 hat3 hlt3; obtain ⟨s3, d9, e9⟩ := HL.out g cap w3 hown3 hgrow3 hat3; have HO : Hid _ := hown3; clear HL hown3 hgrow3 hat3 hlt3)
  clear f9 c9 hown2 d9 e9
  have c9 : (w3.setCell ⟨K, 9, none⟩ (.slice (some ⟨g, 0, none⟩) 2 cap)).cell? ⟨K, 9, none⟩ = some (.slice (some ⟨g, 0, none⟩) 2 cap) := lkCell s3 9
  generalize w3.setCell ⟨K, 9, none⟩ (.slice (some ⟨g, 0, none⟩) 2 cap) = w4 at *
  have hO : w4.ownsRow 0 128 1 (.slice (some ⟨g, 0, none⟩) 2 cap) 2 [.int .u64 (a0 : Nat), .int .u64 (x : Nat)] := s3.get 2 lkAt2
  have k0 : w4.cell? ⟨g, 0, none⟩ = some (.int .u64 (a0 : Nat)) := hO.cellAt 0 (by omega)
  have k1 : w4.cell? ⟨g, 1, none⟩ = some (.int .u64 (x : Nat)) := hO.cellAt 1 (by omega)
  have ha0 : a0 < 18446744073709551616 := HLW.out a0 (by simp)
  have c1 : w4.cell? ⟨K, 1, none⟩ = some (.int .u64 wr.lo) := lkCell s3 1
  have c2 : w4.cell? ⟨K, 2, none⟩ = some (.int .u64 wr.hi) := lkCell s3 2
  have HC : Hid (∀ W, Kept (fun _ => False) w4 W → W.cell? ⟨K, 9, none⟩ = some (.slice (some ⟨g, 0, none⟩) 2 cap) ∧ W.cell? ⟨K, 1, none⟩ = some (.int .u64 wr.lo) ∧ W.cell? ⟨K, 2, none⟩ = some (.int .u64 wr.hi)) := fun W kk => ⟨lkCell (s3.calm kk) 9, lkCell (s3.calm kk) 1, lkCell (s3.calm kk) 2⟩
  have hT : Calls Tryz.prog 419 #[.slice (some ⟨g, 0, none⟩) 2 cap] w4.drew fun e w' => e = .returned (.agg #[.int .u64 (a0 : Nat), .int .u64 (x : Nat)]) ∧ (w'.cell? ⟨K, 9, none⟩ = some (.slice (some ⟨g, 0, none⟩) 2 cap) ∧ w'.cell? ⟨K, 1, none⟩ = some (.int .u64 wr.lo) ∧ w'.cell? ⟨K, 2, none⟩ = some (.int .u64 wr.hi)) ∧ Hid (Kept (fun _ => False) w4 w') := by
    refine (lkTogether a0 x g cap w4.drew k0 k1).mono ?_
    rintro e w' ⟨he, hk⟩
    exact ⟨he, HC.out _ hk.ofDrew, hk.ofDrew⟩
  have hM : ∀ W, Hid (Kept (fun _ => False) w4 W) → Calls Tryz.prog 418 #[.agg #[.int .u64 (a0 : Nat), .int .u64 (x : Nat)], .agg #[.int .u64 wr.lo, .int .u64 wr.hi]] W fun e w' => e = .returned (.bool ((⟨a0, x⟩ : Sg).meets wr)) ∧ (w'.cell? ⟨K, 9, none⟩ = some (.slice (some ⟨g, 0, none⟩) 2 cap) ∧ w'.cell? ⟨K, 1, none⟩ = some (.int .u64 wr.lo) ∧ w'.cell? ⟨K, 2, none⟩ = some (.int .u64 wr.hi)) ∧ Hid (Kept (fun _ => False) w4 w') := by
    intro W kk
    refine (sigMeets_any ⟨a0, x⟩ wr ⟨ha0, hx2⟩ HWR W).mono ?_
    rintro e w' ⟨he, hk⟩
    exact ⟨he, HC.out _ (kk.out.trans hk (fun _ _ f => f)), kk.out.trans hk (fun _ _ f => f)⟩
  have HF : Hid (∀ W, Kept (fun _ => False) w4 W → St o (lkL K A.t ⟨wr, left, iw, ⟨m0, m1, m2, m3⟩, [a0, x], vs⟩ vl (.slice (some ⟨g, 0, none⟩) 2 cap) vv ++ R.set i (spI A c z' v' u)) W) := fun W kk => s3.calm kk
  have HW : Hid (Lk.word ⟨wr, left, iw, ⟨m0, m1, m2, m3⟩, [a0], vs⟩ x = ({ (⟨wr, left, iw, ⟨m0, m1, m2, m3⟩, [a0, x], vs⟩ : Lk) with vs := if (⟨a0, x⟩ : Sg).meets wr then vs ++ [⟨m0, m1, m2, m3⟩] else vs } : Lk).pass) := rfl
  clear s3 hO k0 k1 HO HC
  generalize (⟨a0, x⟩ : Sg).meets wr = B at *
  go_upto_region 3 with fail
  go_region_held3 (fun W => W.cell? ⟨K, 9, none⟩ = some (.slice (some ⟨g, 0, none⟩) 2 cap) ∧ W.cell? ⟨K, 1, none⟩ = some (.int .u64 wr.lo) ∧ W.cell? ⟨K, 2, none⟩ = some (.int .u64 wr.hi)) (first | go_keep | exact rS)
    (first | (go_at_call 419; refine hT.mono ?_; rintro e w5 ⟨rfl, rS, HS5⟩) | (go_at_call 418; refine (hM _ HS5).mono ?_; rintro e w6 ⟨rfl, rS, HS6⟩))
  clear hT hM c9 c1 c2 rS
  have s6 := HF.out _ HS6.out
  clear HF HS5 HS6
  cases B with
  | false =>
    have hq := lkPass0 s6 h0
    clear s6
    go_wp2_with fail
    refine hq.mono ?_
    rintro e w7 ⟨rfl, vl', s7⟩
    have H7 : Hid _ := s7
    clear hq s7
    go_wp2
    go_end0
    exact ⟨rfl, v', vl', .slice none 0 0, vv, by rw [HW.out]; exact H7.out⟩
  | true =>
    have hown6 : w6.ownsRow 0 374 4 vv vs.length (vtCells vs) := s6.get 3 lkAt3
    obtain ⟨la, lc, rfl⟩ := own_form hown6
    have c10 : w6.cell? ⟨K, 10, none⟩ = some (.slice la vs.length lc) := lkCell s6 10
    have f10 := lkFrozen s6 10
    have c5 : w6.cell? ⟨K, 5, none⟩ = some (.int .i64 m0) := lkCell s6 5
    have c6 : w6.cell? ⟨K, 6, none⟩ = some (.int .i64 m1) := lkCell s6 6
    have c7 : w6.cell? ⟨K, 7, none⟩ = some (.int .i64 m2) := lkCell s6 7
    have c8 : w6.cell? ⟨K, 8, none⟩ = some (.int .i64 m3) := lkCell s6 8
    have hbs := buildVt w6 m0 m1 m2 m3
    have hbs' := buildVt w6.drew m0 m1 m2 m3
    have cA : ∀ c t, (w6.alloc (.cells c t)).cell? ⟨K, 10, none⟩ = some (.slice la vs.length lc) := fun c t => by rw [World.cell?_of_block (Below.heap_alloc w6 _ K (World.block_lt_of_cell? w6 _ c10))]; exact c10
    have fA : ∀ c t, (w6.alloc (.cells c t)).frozen? ⟨K, 10, none⟩ = false := fun c t => by rw [frozen?_alloc_cells]; exact f10
    have HV : Hid (∀ g2 cap2 w1, w1.ownsRow 0 374 4 (.slice (some ⟨g2, 0, none⟩) (vs.length + 1) cap2) (vs.length + 1) (vtCells vs ++ Vt.cells ⟨m0, m1, m2, m3⟩) → ((w6.alloc (.cells #[.int .i64 m0, .int .i64 m1, .int .i64 m2, .int .i64 m3] 374)).drew).grownBy w1 (Value.ownBlock (.slice la vs.length lc)) → (Value.ownBlock (.slice la vs.length lc) = some g2 ∨ g2 = w6.heap.size + 1) →
        St o (lkL K A.t ⟨wr, left, iw, ⟨m0, m1, m2, m3⟩, [a0, x], vs ++ [⟨m0, m1, m2, m3⟩]⟩ vl (.slice (some ⟨g, 0, none⟩) 2 cap) (.slice (some ⟨g2, 0, none⟩) (vs.length + 1) cap2) ++ R.set i (spI A c z' v' u)) (w1.setCell ⟨K, 10, none⟩ (.slice (some ⟨g2, 0, none⟩) (vs.length + 1) cap2)) ∧ w1.cell? ⟨K, 10, none⟩ = some (.slice la vs.length lc) ∧ w1.frozen? ⟨K, 10, none⟩ = false) := by
      intro g2 cap2 w1 p1 p2 p3
      exact ⟨lkVs (k := ⟨wr, left, iw, ⟨m0, m1, m2, m3⟩, [a0, x], vs⟩) s6 p1 p2 p3, lkVsCell (k := ⟨wr, left, iw, ⟨m0, m1, m2, m3⟩, [a0, x], vs⟩) s6 p1 p2 p3⟩
    have HQ : Hid (∀ W vv2, St o (lkL K A.t ⟨wr, left, iw, ⟨m0, m1, m2, m3⟩, [a0, x], vs ++ [⟨m0, m1, m2, m3⟩]⟩ vl (.slice (some ⟨g, 0, none⟩) 2 cap) vv2 ++ R.set i (spI A c z' v' u)) W → Calls Tryz.prog 416 #[.pointer (some ⟨K, 0, none⟩)] W fun e w' => e = .returned (.tuple #[]) ∧ ∃ vl', St o (lkL K A.t (Lk.pass ⟨wr, left, iw, ⟨m0, m1, m2, m3⟩, [a0, x], vs ++ [⟨m0, m1, m2, m3⟩]⟩) vl' (.slice none 0 0) vv2 ++ R.set i (spI A c z' v' u)) w') := fun W vv2 hW => lkPass0 hW h0
    clear s6
    generalize hvn : vs.length = nv at *
    have HNV : Hid (vs.length = nv) := hvn
    clear hvn
    generalize hVC : vtCells vs = VC at *
    clear hVC
    go_upto_region 4 with fail
    go_region_law
      ((refine step_append_lies _ (by rfl) _ _ _ (by rfl) 0 374 j0 _ 4 32 Tryz.underlying367 hj0 hy0 hy1 hy2 rfl (by omega) (.slice la nv lc) nv VC (by rfl) ((hown6.alloc _).drew)
          ⟨w6.heap.size, 0, none⟩ 1 1 (Vt.cells ⟨m0, m1, m2, m3⟩) (by rfl) (by rfl) (World.news_of_block (cs := #[.int .i64 m0, .int .i64 m1, .int .i64 m2, .int .i64 m3]) (t := 374) (fr := (0, 0)) (heap_alloc_new w6 _)) (by simp [Value.oneCell', Vt.cells])
          (by omega) (by unfold maxLen; omega) (by omega) (Nat.zero_le _) (w6.heap.size + 1) (by simp) ?_; intro g2 cap2 w1 hown1 hgrow hat hlt
        obtain ⟨s8, e4, ef4⟩ := HV.out g2 cap2 w1 hown1 hgrow hat
        have hq := HQ.out _ _ s8
        clear HV HQ s8 hown1 hgrow hat hlt))
    all_goals (go_wp2_with fail; refine hq.mono ?_; rintro e w7 ⟨rfl, vl', s7⟩; have H7 : Hid _ := s7; clear hq s7; go_wp2; go_end0; exact ⟨rfl, v', vl', .slice none 0 0, .slice (some ⟨g2, 0, none⟩) (nv + 1) cap2, by rw [HW.out]; exact H7.out⟩)

/-- A look that is done, or goes on. -/
theorem lkStep0 (h : St o (lkL K A.t k vl vd vv ++ R) w) (i : Nat) (hi : R[i]? = some (spI A c z v u)) {n : Nat} (ok : z.ok c n) (hn : n ≤ 4611686018427) (hk : k.fit) (hw : WsOk z.ws) :
    Calls Tryz.prog 414 #[.pointer (some ⟨K, 0, none⟩)] w fun e w' => e = .returned (.int .i64 k.ans) ∧ ∃ v' vl' vd' vv', St o (lkL K A.t (k.next z) vl' vd' vv' ++ R.set i (spI A c (z.looks k) v' u)) w' := by
  have hd := lkDone0 h
  have c4 : w.cell? ⟨K, 4, none⟩ = some (.bool k.inW) := lkCell h 4
  unfold Lk.ans Lk.next SSt.looks
  cases hl : k.left with
  | nil =>
    rw [hl, show decide (([] : List Nat) = []) = true from rfl] at hd
    have HF : Hid (St o (lkL K A.t k vl vd vv ++ R.set i (spI A c z v u)) w) := by
      show St _ _ _
      rw [set_back hi]
      exact h
    clear h c4 hi
    simp only [if_true]
    go_enter Tryz.func414, Tryz.ntmps414
    go_wp2_with (go_at_call 395; refine hd.mono ?_; rintro e wq ⟨rfl, rfl⟩)
    go_ret
    exact ⟨rfl, v, vl, vd, vv, HF.out⟩
  | cons s l =>
    have h0 : k.left ≠ [] := by rw [hl]; simp
    rw [hl, show decide (s :: l = []) = false by simp] at hd
    simp only [reduceCtorEq, if_false]
    cases hI : k.inW with
    | true =>
      rw [hI] at c4
      obtain ⟨x, hx, hx2⟩ := hw.word z.hs.length k.met.so k.ld.length
      have hq : Calls Tryz.prog 415 #[.pointer (some ⟨K, 0, none⟩)] w fun e w' => e = .returned (.tuple #[]) ∧ ∃ v' vl' vd' vv', St o (lkL K A.t (k.word x) vl' vd' vv' ++ R.set i (spI A c (z.word k.met.so k.ld.length) v' u)) w' := by
        cases hld : k.ld with
        | nil => rw [← hld]; exact lkWordA h i hi ok hn hk h0 hx hx2 hld
        | cons a0 r =>
          have hr : r = [] := by
            have := hk.ld
            rw [hld] at this
            simpa using this
          subst hr
          rw [← hld]
          exact lkWordB h i hi ok hn hk h0 hx hx2 hld
      rw [hx, Int.toNat_natCast]
      simp only [if_true]
      clear h hi
      generalize k.word x = k' at *
      generalize z.word k.met.so k.ld.length = z' at *
      go_enter Tryz.func414, Tryz.ntmps414
      go_wp2_with (first | (go_at_call 395; refine hd.mono ?_; rintro e wq ⟨rfl, rfl⟩) | (go_at_call 415; refine hq.mono ?_; rintro e w2 ⟨rfl, HX⟩; have HX2 : Hid _ := HX; clear HX))
      go_ret
      exact ⟨rfl, HX2.out⟩
    | false =>
      rw [hI] at c4
      have hq := lkHead0 h i hi ok hn hk hl
      simp only [Bool.false_eq_true, if_false]
      clear h hi
      generalize k.head s (nowAt z.hs s) = k' at *
      generalize z.look s = z' at *
      go_enter Tryz.func414, Tryz.ntmps414
      go_wp2_with (first | (go_at_call 395; refine hd.mono ?_; rintro e wq ⟨rfl, rfl⟩) | (go_at_call 381; refine hq.mono ?_; rintro e w2 ⟨rfl, HX⟩; have HX2 : Hid _ := HX; clear HX))
      go_ret
      obtain ⟨v', vl', vd', h'⟩ := HX2.out
      exact ⟨rfl, v', vl', vd', vv, h'⟩
end
end Go.Proofs.YthbcbjkgjgmegaaGreat

namespace Go.Proofs.YthbcbjkgjgmegaaGreat
open Go.RowKit
set_option linter.unusedVariables false
set_option linter.unusedSimpArgs false
attribute [local go_sem ↓] Go.wp_at_zero Go.wp_at_succ

section
variable {o w : World} {its R : List It} {A : Ad} {c : Cfg} {z : SSt} {v u : Value} {K t : Nat} {k : Lk} {vl vd vv : Value}
set_option maxRecDepth 100000 in
set_option maxHeartbeats 1000000 in
theorem lkNew_out (h : St o its w) (i : Nat) (hi : its[i]? = some (spI A c z v u)) (s : Int) (wr : Sg) (hs : inT z.hs.length s = false) :
    Calls Tryz.prog 253 #[spp A, .int .i64 s, wr.val] w fun e w' => e = .returned (.tuple #[.pointer none, .int .i64 2]) ∧ St o its w' := by
  have h0 := h.alloc (.cells #[.int .u64 wr.lo, .int .u64 wr.hi] 130)
  have hSl := spSlots h0 i hi
  have hH := lkHas h0 i hi s
  rw [hs] at hH
  have HF : Hid (St o its (w.alloc (.cells #[.int .u64 wr.lo, .int .u64 wr.hi] 130))) := h0
  unfold spp Sg.val at *
  clear h h0 hi
  go_enter Tryz.func253, Tryz.ntmps253
  go_wp2_with (first | (go_at_call 243; refine hSl.mono ?_; rintro e wq ⟨rfl, rfl⟩) | (go_at_call 280; refine hH.mono ?_; rintro e wq ⟨rfl, rfl⟩))
  go_ret2
  exact ⟨rfl, HF.out⟩

set_option maxRecDepth 100000 in
set_option maxHeartbeats 1000000 in
theorem lkNew_st (h : St o its w) (i : Nat) (hi : its[i]? = some (spI A c z v u)) (s : Nat) (wr : Sg) (hs : s < z.hs.length) (h8 : z.hs.length ≤ 8) :
    Calls Tryz.prog 253 #[spp A, .int .i64 s, wr.val] w fun e w' => ∃ K vl, e = .returned (.tuple #[.pointer (some ⟨K, 0, none⟩), .int .i64 0]) ∧ St o (lkI K A.t (Lk.new wr z.hs.length s) vl (.slice none 0 0) (.slice none 0 0) :: its) w' := by
  have h0 := h.alloc (.cells #[.int .u64 wr.lo, .int .u64 wr.hi] 130)
  have hb := h.box #[.int .u64 wr.lo, .int .u64 wr.hi] 130
  have hSl := spSlots h0 i hi
  have hH := lkHas h0 i hi s
  rw [show inT z.hs.length (s : Int) = true from by unfold inT; rw [decide_eq_true (Int.natCast_nonneg s), decide_eq_true (by omega : (s : Int) < z.hs.length)]; rfl] at hH
  unfold spp Sg.val at *
  have HL : Hid (∀ W, Kept (fun _ => False) (w.alloc (.cells #[.int .u64 wr.lo, .int .u64 wr.hi] 130)) W → Calls Tryz.prog 119 #[.pointer (some ⟨A.t, 0, none⟩)] W fun e w' => e = .returned (.int .i64 z.hs.length) ∧ w' = W) := fun W kk => spLen (h0.calm kk) i hi
  have HO : Hid (∀ W, Calls Tryz.prog 281 #[.int .i64 (z.hs.length : Nat), .int .i64 s] W fun e w' => ∃ v, e = .returned v ∧ w'.ownsRow W.heap.size 3 1 v (othersOf z.hs.length s).length (cellsOf (othersOf z.hs.length s)) ∧ Kept (fun _ => False) W w') := fun W => lkOthers z.hs.length s h8 W
  have HF : Hid (∀ W W' v', Kept (fun _ => False) (w.alloc (.cells #[.int .u64 wr.lo, .int .u64 wr.hi] 130)) W → W'.ownsRow W.heap.size 3 1 v' (othersOf z.hs.length s).length (cellsOf (othersOf z.hs.length s)) → Kept (fun _ => False) W W' → St o (lkI W'.heap.size A.t (Lk.new wr z.hs.length s) v' (.slice none 0 0) (.slice none 0 0) :: its) (W'.alloc (.cells #[.pointer (some ⟨A.t, 0, none⟩), .int .u64 wr.lo, .int .u64 wr.hi, v', .bool false, .int .i64 0, .int .i64 0, .int .i64 0, .int .i64 0, .slice none 0 0, .slice none 0 0] 387))) := by
    intro W W' v' k1 p k2
    have a0 := (h0.calm k1).push (ownI 374 4 (.slice none 0 0) 0 []) (Kept.refl _ _) (World.ownsRow_nil _ _ _ _) (own_nodup (.slice none 0 0)) (fun b hb => by simp [ownI, Value.ownBlock] at hb)
    have a1 := a0.push (ownI 128 1 (.slice none 0 0) 0 []) (Kept.refl _ _) (World.ownsRow_nil _ _ _ _) (own_nodup (.slice none 0 0)) (fun b hb => by simp [ownI, Value.ownBlock] at hb)
    have a2 := a1.own k2 p
    have a3 := a2.box #[.pointer (some ⟨A.t, 0, none⟩), .int .u64 wr.lo, .int .u64 wr.hi, v', .bool false, .int .i64 0, .int .i64 0, .int .i64 0, .int .i64 0, .slice none 0 0, .slice none 0 0] 387
    have a4 := a3.ownTail 1 rfl
    exact St.unite (l := lkL W'.heap.size A.t (Lk.new wr z.hs.length s) v' (.slice none 0 0) (.slice none 0 0)) a4
  have HC : Hid (∀ W, Kept (fun _ => False) (w.alloc (.cells #[.int .u64 wr.lo, .int .u64 wr.hi] 130)) W → W.cell? ⟨w.heap.size, 0, none⟩ = some (.int .u64 wr.lo) ∧ W.cell? ⟨w.heap.size, 1, none⟩ = some (.int .u64 wr.hi)) := fun W kk => ⟨(hb.calm kk).cell 0 rfl 0, (hb.calm kk).cell 0 rfl 1⟩
  have HI : Hid (Lk.new wr z.hs.length s = Lk.new wr z.hs.length s) := rfl
  clear h h0 hi hb HI
  generalize Lk.new wr z.hs.length s = LN at *
  generalize othersOf z.hs.length s = OT at *
  generalize z.hs.length = nn at *
  obtain ⟨g0, g1⟩ := wr
  simp only at *
  go_enter Tryz.func253, Tryz.ntmps253
  go_upto_region 1 with fail
  generalize w.alloc (.cells #[.int .u64 g0, .int .u64 g1] 130) = w1 at *
  generalize w.heap.size = F at *
  go_upto_region 4 with (first | (go_at_call 243; refine hSl.mono ?_; rintro e wq ⟨rfl, rfl⟩) | (go_at_call 280; refine hH.mono ?_; rintro e wq ⟨rfl, rfl⟩))
  clear hSl hH
  have hl := HL.out _ (Kept.refl _ _).drew
  obtain ⟨d0, d1⟩ := HC.out _ (Kept.refl _ _)
  have ho := HO.out
  go_region_with (first | (go_at_call 119; refine hl.mono ?_; rintro e wq ⟨rfl, rfl⟩) | (go_at_call 281; refine (ho _).mono ?_; rintro e w3 ⟨v', rfl, ho', hk⟩; obtain ⟨la, lc, rfl⟩ := own_form (own_zero ho'); obtain ⟨e0, e1⟩ := HC.out _ hk.ofDrew))
  all_goals (go_wp2; go_ret2; exact ⟨_, _, rfl, HF.out _ _ _ (Kept.refl _ _).drew ho' hk⟩)

/-- Looks among other things. -/
theorem lkStep (h : St o its w) (i j : Nat) (hij : i ≠ j) (hi : its[i]? = some (spI A c z v u)) (hj : its[j]? = some (lkI K A.t k vl vd vv)) {n : Nat} (ok : z.ok c n) (hn : n ≤ 4611686018427) (hk : k.fit) (hw : WsOk z.ws) :
    Calls Tryz.prog 414 #[.pointer (some ⟨K, 0, none⟩)] w fun e w' => e = .returned (.int .i64 k.ans) ∧ ∃ v' vl' vd' vv', St o ((its.set i (spI A c (z.looks k) v' u)).set j (lkI K A.t (k.next z) vl' vd' vv')) w' := by
  obtain ⟨i', hi', hs'⟩ := erase_get hij hi
  refine (lkStep0 (h.open j hj) i' hi' ok hn hk hw).mono ?_
  rintro e w' ⟨he, v', vl', vd', vv', h'⟩
  rw [hs'] at h'
  exact ⟨he, v', vl', vd', vv', St.shut (l := lkL K A.t (k.next z) vl' vd' vv') (set_other hj hij) h'⟩
theorem lkDone (h : St o its w) (j : Nat) (hj : its[j]? = some (lkI K t k vl vd vv)) :
    Calls Tryz.prog 395 #[.pointer (some ⟨K, 0, none⟩)] w fun e w' => e = .returned (.bool (decide (k.left = []))) ∧ w' = w := lkDone0 (h.open j hj)
theorem lkVictims (h : St o its w) (j : Nat) (hj : its[j]? = some (lkI K t k vl vd vv)) (hk : k.vs.length ≤ 8) :
    Calls Tryz.prog 400 #[.pointer (some ⟨K, 0, none⟩)] w fun e w' => ∃ v', e = .returned v' ∧ St o (ownI 374 4 v' k.vs.length (vtCells k.vs) :: its) w' := by
  refine (lkVictims0 (h.open j hj) hk).mono ?_
  rintro e w' ⟨v', he, p, kk⟩
  exact ⟨v', he, h.own kk p⟩
end
end Go.Proofs.YthbcbjkgjgmegaaGreat
