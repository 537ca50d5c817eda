/- A new walk. -/
import Derived.Test.YtcchflfeomainaaGreatDoorVfC
import Derived.Test.YtcchflfeomainaaGreatDoorPsE
import Derived.Maps.AppendAt
namespace Go.Proofs.YtcchflfeomainaaGreatDoor
open Go.RowKit
set_option linter.unusedVariables false
set_option linter.unusedSimpArgs false
attribute [local go_sem ↓] Go.wp_at_zero Go.wp_at_succ

theorem perm_idx (d : It) (l : List It) (k : Nat) (hk : l.length = k) (is : List Nat) (h : is.Perm (List.range k)) : l.Perm (is.map (fun i => l.getD i d)) := by
  subst hk
  have e : (List.range l.length).map (fun i => l.getD i d) = l := by
    apply List.ext_getElem
    · simp
    · intro i h1 h2
      simp [List.getD_eq_getElem?_getD, h2]
  have := (h.map (fun i => l.getD i d)).symm
  rwa [e] at this
theorem made_one {v : Value} (hv : v.cells = #[v]) (n : Nat) : madeCells v.cells (n * 1) = (List.replicate n v).toArray := by
  apply Array.ext'
  apply List.ext_getElem?
  intro j
  by_cases hj : j < n
  · simp [madeCells, hv, hj, Nat.mod_one]
  · rw [List.getElem?_eq_none (by simp [size_madeCells]; omega), List.getElem?_eq_none (by simp; omega)]
theorem Tryz.infoB4 : (Tryz.prog.info? 4).map (fun i => (i.zero, i.size, i.bytes)) = some (some (.bool false), 1, 1) := by kernel_rfl
theorem Tryz.infoI3 : (Tryz.prog.info? 3).map (fun i => (i.zero, i.size, i.bytes)) = some (some (.int .i64 0), 1, 8) := by kernel_rfl
theorem Tryz.infoE25 : (Tryz.prog.info? 25).map (fun i => (i.zero, i.size, i.bytes)) = some (some (.int .i64 0), 1, 8) := by kernel_rfl
theorem makeB (k : Nat) (K : Int) (hK : K = (k : Int)) (hk : k ≤ 1000000) (W : World) : (Instr.makeSlice 64 (.int .i64 K) (.int .i64 K)).run Tryz.prog W = .ok (.slice (some ⟨W.heap.size, 0, none⟩) k k) (W.alloc (.cells (bCells (List.replicate k false)) 4)) := by
  obtain ⟨i0, hi0, hz0, hz1, hz2⟩ := info_parts Tryz.infoB4
  subst hK
  have := run_make (P := Tryz.prog) W 64 4 i0 _ Tryz.underlying64 hi0 hz0 .i64 .i64 k k (by omega) (by omega) (by rw [hz2]; omega) (by omega)
  rw [this, hz1, Int.toNat_natCast, made_one rfl]
  simp [bCells]
theorem makeI (k : Nat) (K : Int) (hK : K = (k : Int)) (hk : k ≤ 1000000) (W : World) : (Instr.makeSlice 50 (.int .i64 K) (.int .i64 K)).run Tryz.prog W = .ok (.slice (some ⟨W.heap.size, 0, none⟩) k k) (W.alloc (.cells (nCells (List.replicate k 0)) 3)) := by
  obtain ⟨i0, hi0, hz0, hz1, hz2⟩ := info_parts Tryz.infoI3
  subst hK
  have := run_make (P := Tryz.prog) W 50 3 i0 _ Tryz.underlying50 hi0 hz0 .i64 .i64 k k (by omega) (by omega) (by rw [hz2]; omega) (by omega)
  rw [this, hz1, Int.toNat_natCast, made_one rfl]
  simp [nCells]
theorem makeE (k : Nat) (K : Int) (hK : K = (k : Int)) (hk : k ≤ 1000000) (W : World) : (Instr.makeSlice 66 (.int .i64 K) (.int .i64 K)).run Tryz.prog W = .ok (.slice (some ⟨W.heap.size, 0, none⟩) k k) (W.alloc (.cells (nCells (List.replicate k 0)) 25)) := by
  obtain ⟨i0, hi0, hz0, hz1, hz2⟩ := info_parts Tryz.infoE25
  subst hK
  have := run_make (P := Tryz.prog) W 66 25 i0 _ Tryz.underlying66 hi0 hz0 .i64 .i64 k k (by omega) (by omega) (by rw [hz2]; omega) (by omega)
  rw [this, hz1, Int.toNat_natCast, made_one rfl]
  simp [nCells]
set_option maxRecDepth 100000 in
set_option maxHeartbeats 2000000 in
theorem newWalk_st {o w : World} (bt : Nat) (la : Option Addr) (n lc : Nat) (l : List Ins) (hT : St o [boxI bt tabC 57] w) (hI : IIn w la n l) (h0 : 0 < n) (hn : n ≤ 400) :
    Calls Tryz.prog 29 #[.slice (some ⟨bt, 0, none⟩) 23 23, .slice la n lc] w fun e w' => ∃ A : Wad, A.bt = bt ∧ e = .returned (.pointer (some ⟨A.k, 0, none⟩)) ∧ St o (wkL A (withHalt l) (.slice none 0 0) ⟨List.replicate ((n + 1) * 1122) false, List.replicate (n + 1) 0, List.replicate (n + 1) 0, []⟩) w' := by
  obtain ⟨i0, hi0, hz0, hz1, hz2⟩ := info_parts Tryz.infoIn
  obtain ⟨g, off, rfl⟩ := hI.addr h0
  have HN : Hid (n = l.length) := hI.1
  obtain ⟨wm, hmk, hom, hgm⟩ := run_make_own (P := Tryz.prog) w w.heap.size 23 48 i0 _ 2 Tryz.underlying23 hi0 hz0 hz1 .i64 .i64 (n + 1) (by rw [hz2]; omega) (by unfold maxLen; omega) (Nat.le_refl _)
  have hkm : Kept (fun _ => False) w wm := (Kept.refl _ w).grown hgm (fun k e => by cases e)
  have s1 := hT.own hkm hom
  have hI2 := hI.kept hkm
  have hcells : ∀ j u, (insCells l)[j]? = some u → wm.cell? ((⟨g, off, none⟩ : Addr).add j) = some u := by
    intro j u hu
    obtain ⟨g', o', e, hc⟩ := hI2.2 h0
    simp only [Option.some.injEq, Addr.mk.injEq, and_true] at e
    obtain ⟨rfl, rfl⟩ := e
    rw [Addr.add_lit]
    exact hc j u hu
  have hlen : (insCells l).length = n * 2 := by rw [insCells_length, ← HN.out]
  have hom0 : wm.ownsRow 0 48 2 (.slice (some ⟨w.heap.size, 0, none⟩) 0 (n + 1)) 0 [] := own_zero hom
  have hmk2 : (Instr.makeSlice 23 (.int .i64 0) (.int .i64 ((n : Int) + 1))).run Tryz.prog w = .ok (.slice (some ⟨w.heap.size, 0, none⟩) 0 (n + 1)) wm := hmk
  have b1 : (0 : Int) ≤ (n : Int) := Int.natCast_nonneg _
  have b2 : (n : Int) ≤ 400 := by omega
  have HO : Hid (∀ v' w', w'.ownsRow 0 48 2 v' (0 + n) ([] ++ insCells l) → wm.grownBy w' (Value.ownBlock (.slice (some ⟨w.heap.size, 0, none⟩) 0 (n + 1))) → (v'.ownBlock = Value.ownBlock (.slice (some ⟨w.heap.size, 0, none⟩) 0 (n + 1)) ∨ v'.ownBlock = some wm.heap.size) → St o [ownI 48 2 v' n (insCells l), boxI bt tabC 57] w') := by
    intro v' w' p1 p2 p3
    rw [Nat.zero_add, List.nil_append] at p1
    exact s1.ownGrow 0 rfl p1 ((Kept.refl _ wm).grown p2 (fun k e => .inl e)) (by rcases p3 with e | e; exact .inl e; exact .inr ⟨_, e, Nat.le_refl _⟩)
  clear hom hgm hkm s1 hI2 hT hI hmk
  go_enter Tryz.func29, Tryz.ntmps29
  go_upto_region 3 with (first | simp only [hmk2] | (at_builtin; refine wpList_append_own_at _ rfl (.tmp 10) (.tmp 11) 23 rfl 0 48 i0 _ 2 16 Tryz.underlying23 hi0 hz0 hz1 hz2 rfl (by omega) (.slice (some ⟨w.heap.size, 0, none⟩) 0 (n + 1)) 0 [] rfl hom0 ⟨g, off, none⟩ n lc (insCells l) rfl hlen hcells (insCells_one l) (by unfold maxLen; omega) (by omega) (by simp) ?_; intro v2 w2 ho2 hg2 hn2 ha2; replace ho2 := hid (HO.out _ _ ho2 hg2 ha2); clear hg2 hn2 ha2))
  clear HO hcells hom0 hmk2
  have s2 := ho2.out
  clear ho2
  have hown2 : w2.ownsRow 0 48 2 v2 n (insCells l) := s2.get 0 rfl
  have hbs := buildIn w2 22 0
  have HO : Hid (∀ g2 cap2 w1, w1.ownsRow 0 48 2 (.slice (some ⟨g2, 0, none⟩) (n + 1) cap2) (n + 1) (insCells l ++ [.int .i64 22, .int .i64 0]) → (w2.alloc (.cells #[.int .i64 22, .int .i64 0] 48)).grownBy w1 v2.ownBlock → (v2.ownBlock = some g2 ∨ g2 = w2.heap.size + 1) → St o [ownI 48 2 (.slice (some ⟨g2, 0, none⟩) (n + 1) cap2) (withHalt l).length (insCells (withHalt l)), boxI bt tabC 57] w1) := by
    intro g2 cap2 w1 p1 p2 p3
    have a1 := s2.growAt 0 rfl p1 p2 p3
    unfold withHalt
    rw [insCells_append, show (l ++ [(⟨22, 0⟩ : Ins)]).length = n + 1 by rw [HN.out]; simp]
    exact a1
  generalize insCells l = IC at *
  clear s2
  go_upto_region 4 with (first | (at_builtin; refine wpList_append_lies _ rfl (.tmp 13) (.tmp 15) 23 rfl 0 48 i0 _ 2 16 Tryz.underlying23 hi0 hz0 hz1 hz2 rfl (by omega) v2 n IC rfl (hown2.alloc _) ⟨w2.heap.size, 0, none⟩ 1 1 [.int .i64 22, .int .i64 0] rfl rfl (World.news_of_block (cs := #[.int .i64 22, .int .i64 0]) (t := 48) (fr := (0, 0)) (heap_alloc_new w2 _)) (by simp [Value.oneCell']) (by omega) (by unfold maxLen; omega) (by omega) (Nat.zero_le _) (w2.heap.size + 1) (by simp) ?_; intro g3 cap3 w3 ho3 hg3 ha3 hl3; replace ho3 := hid (HO.out _ _ _ ho3 hg3 ha3); clear hg3 ha3 hl3) | simp only [hbs])
  clear HO hown2 hbs hlen
  have s3 := ho3.out
  clear ho3
  have hmB := makeB ((n + 1) * 1122) (((n : Int) + 1) * 1122) (by omega) (by omega)
  have hmI := makeI (n + 1) ((n : Int) + 1) (by omega) (by omega)
  have hmE := makeE (n + 1) ((n : Int) + 1) (by omega) (by omega)
  go_region
  all_goals first
    | (
      have s4 := ((((s3.box (bCells (List.replicate ((n + 1) * 1122) false)) 4).box (nCells (List.replicate (n + 1) 0)) 3).box (nCells (List.replicate (n + 1) 0)) 25).box #[.slice (some ⟨bt, 0, none⟩) 23 23, .slice (some ⟨g3, 0, none⟩) (n + 1) cap3, .slice (some ⟨w3.heap.size, 0, none⟩) ((n + 1) * 1122) ((n + 1) * 1122), .slice none 0 0, .slice (some ⟨w3.heap.size + 1, 0, none⟩) (n + 1) (n + 1), .slice (some ⟨w3.heap.size + 1 + 1, 0, none⟩) (n + 1) (n + 1)] 68).drew
      have s5 := (s4.own (e := 70) (z := 4) (Kept.refl _ _) (World.ownsRow_nil _ _ _ _)).perm (perm_idx (boxI 0 #[] 0) _ 7 rfl [1, 6, 5, 4, 3, 2, 0] (by decide))
      simp only [alloc_size] at s5
      have HS := hid s5
      clear s3 s4 s5
      go_wp2
      go_ret
      have hlw : (withHalt l).length = n + 1 := (by rw [HN.out]; simp [withHalt])
      refine ⟨⟨w3.heap.size + 1 + 1 + 1, bt, .slice (some ⟨g3, 0, none⟩) (n + 1) cap3, w3.heap.size, w3.heap.size + 1, w3.heap.size + 1 + 1⟩, rfl, rfl, ?_⟩
      unfold wkL wkC
      rw [hlw]
      have h9 := HS.out
      rw [hlw] at h9
      exact h9)
    | (
      have s4 := ((((s3.box (bCells (List.replicate ((n + 1) * 1122) false)) 4).box (nCells (List.replicate (n + 1) 0)) 25).box (nCells (List.replicate (n + 1) 0)) 3).box #[.slice (some ⟨bt, 0, none⟩) 23 23, .slice (some ⟨g3, 0, none⟩) (n + 1) cap3, .slice (some ⟨w3.heap.size, 0, none⟩) ((n + 1) * 1122) ((n + 1) * 1122), .slice none 0 0, .slice (some ⟨w3.heap.size + 1 + 1, 0, none⟩) (n + 1) (n + 1), .slice (some ⟨w3.heap.size + 1, 0, none⟩) (n + 1) (n + 1)] 68).drew
      have s5 := (s4.own (e := 70) (z := 4) (Kept.refl _ _) (World.ownsRow_nil _ _ _ _)).perm (perm_idx (boxI 0 #[] 0) _ 7 rfl [1, 6, 5, 4, 2, 3, 0] (by decide))
      simp only [alloc_size] at s5
      have HS := hid s5
      clear s3 s4 s5
      go_wp2
      go_ret
      have hlw : (withHalt l).length = n + 1 := (by rw [HN.out]; simp [withHalt])
      refine ⟨⟨w3.heap.size + 1 + 1 + 1, bt, .slice (some ⟨g3, 0, none⟩) (n + 1) cap3, w3.heap.size, w3.heap.size + 1 + 1, w3.heap.size + 1⟩, rfl, rfl, ?_⟩
      unfold wkL wkC
      rw [hlw]
      have h9 := HS.out
      rw [hlw] at h9
      exact h9)
    | (
      have s4 := ((((s3.box (nCells (List.replicate (n + 1) 0)) 3).box (bCells (List.replicate ((n + 1) * 1122) false)) 4).box (nCells (List.replicate (n + 1) 0)) 25).box #[.slice (some ⟨bt, 0, none⟩) 23 23, .slice (some ⟨g3, 0, none⟩) (n + 1) cap3, .slice (some ⟨w3.heap.size + 1, 0, none⟩) ((n + 1) * 1122) ((n + 1) * 1122), .slice none 0 0, .slice (some ⟨w3.heap.size, 0, none⟩) (n + 1) (n + 1), .slice (some ⟨w3.heap.size + 1 + 1, 0, none⟩) (n + 1) (n + 1)] 68).drew
      have s5 := (s4.own (e := 70) (z := 4) (Kept.refl _ _) (World.ownsRow_nil _ _ _ _)).perm (perm_idx (boxI 0 #[] 0) _ 7 rfl [1, 6, 5, 3, 4, 2, 0] (by decide))
      simp only [alloc_size] at s5
      have HS := hid s5
      clear s3 s4 s5
      go_wp2
      go_ret
      have hlw : (withHalt l).length = n + 1 := (by rw [HN.out]; simp [withHalt])
      refine ⟨⟨w3.heap.size + 1 + 1 + 1, bt, .slice (some ⟨g3, 0, none⟩) (n + 1) cap3, w3.heap.size + 1, w3.heap.size, w3.heap.size + 1 + 1⟩, rfl, rfl, ?_⟩
      unfold wkL wkC
      rw [hlw]
      have h9 := HS.out
      rw [hlw] at h9
      exact h9)
    | (
      have s4 := ((((s3.box (nCells (List.replicate (n + 1) 0)) 3).box (nCells (List.replicate (n + 1) 0)) 25).box (bCells (List.replicate ((n + 1) * 1122) false)) 4).box #[.slice (some ⟨bt, 0, none⟩) 23 23, .slice (some ⟨g3, 0, none⟩) (n + 1) cap3, .slice (some ⟨w3.heap.size + 1 + 1, 0, none⟩) ((n + 1) * 1122) ((n + 1) * 1122), .slice none 0 0, .slice (some ⟨w3.heap.size, 0, none⟩) (n + 1) (n + 1), .slice (some ⟨w3.heap.size + 1, 0, none⟩) (n + 1) (n + 1)] 68).drew
      have s5 := (s4.own (e := 70) (z := 4) (Kept.refl _ _) (World.ownsRow_nil _ _ _ _)).perm (perm_idx (boxI 0 #[] 0) _ 7 rfl [1, 6, 5, 2, 4, 3, 0] (by decide))
      simp only [alloc_size] at s5
      have HS := hid s5
      clear s3 s4 s5
      go_wp2
      go_ret
      have hlw : (withHalt l).length = n + 1 := (by rw [HN.out]; simp [withHalt])
      refine ⟨⟨w3.heap.size + 1 + 1 + 1, bt, .slice (some ⟨g3, 0, none⟩) (n + 1) cap3, w3.heap.size + 1 + 1, w3.heap.size, w3.heap.size + 1⟩, rfl, rfl, ?_⟩
      unfold wkL wkC
      rw [hlw]
      have h9 := HS.out
      rw [hlw] at h9
      exact h9)
    | (
      have s4 := ((((s3.box (nCells (List.replicate (n + 1) 0)) 25).box (bCells (List.replicate ((n + 1) * 1122) false)) 4).box (nCells (List.replicate (n + 1) 0)) 3).box #[.slice (some ⟨bt, 0, none⟩) 23 23, .slice (some ⟨g3, 0, none⟩) (n + 1) cap3, .slice (some ⟨w3.heap.size + 1, 0, none⟩) ((n + 1) * 1122) ((n + 1) * 1122), .slice none 0 0, .slice (some ⟨w3.heap.size + 1 + 1, 0, none⟩) (n + 1) (n + 1), .slice (some ⟨w3.heap.size, 0, none⟩) (n + 1) (n + 1)] 68).drew
      have s5 := (s4.own (e := 70) (z := 4) (Kept.refl _ _) (World.ownsRow_nil _ _ _ _)).perm (perm_idx (boxI 0 #[] 0) _ 7 rfl [1, 6, 5, 3, 2, 4, 0] (by decide))
      simp only [alloc_size] at s5
      have HS := hid s5
      clear s3 s4 s5
      go_wp2
      go_ret
      have hlw : (withHalt l).length = n + 1 := (by rw [HN.out]; simp [withHalt])
      refine ⟨⟨w3.heap.size + 1 + 1 + 1, bt, .slice (some ⟨g3, 0, none⟩) (n + 1) cap3, w3.heap.size + 1, w3.heap.size + 1 + 1, w3.heap.size⟩, rfl, rfl, ?_⟩
      unfold wkL wkC
      rw [hlw]
      have h9 := HS.out
      rw [hlw] at h9
      exact h9)
    | (
      have s4 := ((((s3.box (nCells (List.replicate (n + 1) 0)) 25).box (nCells (List.replicate (n + 1) 0)) 3).box (bCells (List.replicate ((n + 1) * 1122) false)) 4).box #[.slice (some ⟨bt, 0, none⟩) 23 23, .slice (some ⟨g3, 0, none⟩) (n + 1) cap3, .slice (some ⟨w3.heap.size + 1 + 1, 0, none⟩) ((n + 1) * 1122) ((n + 1) * 1122), .slice none 0 0, .slice (some ⟨w3.heap.size + 1, 0, none⟩) (n + 1) (n + 1), .slice (some ⟨w3.heap.size, 0, none⟩) (n + 1) (n + 1)] 68).drew
      have s5 := (s4.own (e := 70) (z := 4) (Kept.refl _ _) (World.ownsRow_nil _ _ _ _)).perm (perm_idx (boxI 0 #[] 0) _ 7 rfl [1, 6, 5, 2, 3, 4, 0] (by decide))
      simp only [alloc_size] at s5
      have HS := hid s5
      clear s3 s4 s5
      go_wp2
      go_ret
      have hlw : (withHalt l).length = n + 1 := (by rw [HN.out]; simp [withHalt])
      refine ⟨⟨w3.heap.size + 1 + 1 + 1, bt, .slice (some ⟨g3, 0, none⟩) (n + 1) cap3, w3.heap.size + 1 + 1, w3.heap.size + 1, w3.heap.size⟩, rfl, rfl, ?_⟩
      unfold wkL wkC
      rw [hlw]
      have h9 := HS.out
      rw [hlw] at h9
      exact h9)
end Go.Proofs.YtcchflfeomainaaGreatDoor
