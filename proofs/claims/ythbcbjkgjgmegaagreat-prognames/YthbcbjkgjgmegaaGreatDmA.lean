/- Doomings: what is made, Done, Doomed, a step. -/
import Derived.Test.YthbcbjkgjgmegaaGreatLkD
namespace Go.Proofs.YthbcbjkgjgmegaaGreat
open Go.RowKit
set_option linter.unusedVariables false
set_option linter.unusedSimpArgs false
attribute [local go_sem ↓] Go.wp_at_zero Go.wp_at_succ

section
variable {o w : World} {its R : List It} {A : Ad} {c : Cfg} {z : SSt} {v u : Value} {K t : Nat} {d : Dm} {vl vv : Value}
theorem dmAt0 : (dmL K t d vl vv ++ R)[0]? = some (boxI K (d.cells t vl vv) 447) := rfl
theorem dmAt1 : (dmL K t d vl vv ++ R)[1]? = some (tailI 374 4 vl d.left.length (vtCells d.left)) := rfl
theorem dmAt2 : (dmL K t d vl vv ++ R)[2]? = some (ownI 374 4 vv d.dn.length (vtCells d.dn)) := rfl
theorem dmCell (h : St o (dmL K t d vl vv ++ R) w) (n : Nat) : w.cell? ⟨K, n, none⟩ = (d.cells t vl vv)[n]? := h.cell 0 dmAt0 n
theorem dmFrozen (h : St o (dmL K t d vl vv ++ R) w) (n : Nat) : w.frozen? ⟨K, n, none⟩ = false := h.frozen 0 dmAt0 n
theorem dmSet (i : Nat) (X : It) : (dmL K t d vl vv ++ R).set (3 + i) X = dmL K t d vl vv ++ R.set i X := by
  rw [List.set_append_right _ _ (by simp [dmL])]
  congr 1
  simp [dmL]
theorem dmGet {i : Nat} {X : It} (h : R[i]? = some X) : (dmL K t d vl vv ++ R)[3 + i]? = some X := by
  rw [List.getElem?_append_right (by simp [dmL])]
  simpa [dmL] using h
theorem dmDone0 (h : St o (dmL K t d vl vv ++ R) w) :
    Calls Tryz.prog 403 #[.pointer (some ⟨K, 0, none⟩)] w fun e w' => e = .returned (.bool (decide (d.left = []))) ∧ w' = w := by
  have c3 : w.cell? ⟨K, 2, none⟩ = some vl := dmCell h 2
  obtain ⟨a, cp, rfl⟩ := tail_len (h.get 1 dmAt1)
  clear h
  have he : decide (d.left = []) = ((d.left.length : Int) == 0) := by
    cases d.left <;> simp
    omega
  rw [he]
  generalize d.left.length = n at *
  go_enter Tryz.func403, Tryz.ntmps403
  go_wp2
  go_ret
  exact ⟨rfl, rfl⟩
def allIn (n : Nat) (zs : List Vt) : Prop := ∀ j (hj : j < zs.length), inT n zs[j].so = true
set_option maxRecDepth 100000 in
set_option maxHeartbeats 1000000 in
theorem dmNew_st (h : St o its w) (i : Nat) (hi : its[i]? = some (spI A c z v u)) (wy : Int) (h1 : 1 ≤ wy) (h8 : wy ≤ 8) {la : Option Addr} {n lc : Nat} {zs : List Vt} (hL : VIn w la n zs) (hN : la = none → n = 0 ∧ lc = 0) (hb : n * 32 ≤ 140737488355328) (hz : allIn z.hs.length zs) :
    Calls Tryz.prog 398 #[spp A, .int .i64 wy, .slice la n lc] w fun e w' => ∃ K vl, e = .returned (.tuple #[.pointer (some ⟨K, 0, none⟩), .int .i64 0]) ∧ St o (dmI K A.t ⟨wy, zs, []⟩ vl (.slice none 0 0) :: its) w' := by
  have hSl := spSlots h i hi
  have HH : Hid (∀ W s, Kept (fun _ => False) w W → Calls Tryz.prog 280 #[.pointer (some ⟨A.t, 0, none⟩), .int .i64 s] W fun e w' => e = .returned (.bool (inT z.hs.length s)) ∧ w' = W) := fun W s k => lkHas (h.calm k) i hi s
  have HZ : Hid (allIn z.hs.length zs) := hz
  have HV : Hid (VIn w la n zs) := hL
  have HC : Hid (∀ W, Kept (fun _ => False) w W → Calls Tryz.prog 402 #[.slice la n lc] W fun e w' => ∃ v', e = .returned v' ∧ w'.ownsRow W.heap.size 374 4 v' zs.length (vtCells zs) ∧ Kept (fun _ => False) W w') := fun W k => cloneVt la n lc zs W (hL.kept k) hN hb
  have HF : Hid (∀ W W' v', Kept (fun _ => False) w W → W'.ownsRow W.heap.size 374 4 v' zs.length (vtCells zs) → Kept (fun _ => False) W W' → St o (dmI W'.heap.size A.t ⟨wy, zs, []⟩ v' (.slice none 0 0) :: its) (W'.alloc (.cells #[.pointer (some ⟨A.t, 0, none⟩), .int .i64 wy, v', .slice none 0 0] 447))) := by
    intro W W' v' k1 p k2
    have a0 := (h.calm k1).push (ownI 374 4 (.slice none 0 0) 0 []) (Kept.refl _ _) (World.ownsRow_nil _ _ _ _) (own_nodup (.slice none 0 0)) (fun b hb => by simp [ownI, Value.ownBlock] at hb)
    have a1 := a0.own k2 p
    have a2 := a1.box #[.pointer (some ⟨A.t, 0, none⟩), .int .i64 wy, v', .slice none 0 0] 447
    have a3 := a2.ownTail 1 rfl
    exact St.unite (l := dmL W'.heap.size A.t ⟨wy, zs, []⟩ v' (.slice none 0 0)) a3
  have HNZ : Hid (n = zs.length) := hL.1
  have g1 : ¬ wy < 1 := by omega
  have g2 : ¬ (8 : Int) < wy := by omega
  unfold spp at *
  have hnb : n ≤ 4398046511104 := by omega
  clear h hi hL hz hN hb
  go_enter Tryz.func398, Tryz.ntmps398
  go_wp2_with (go_at_call 243; refine hSl.mono ?_; rintro e wq ⟨rfl, rfl⟩)
  have K0 : Kept (fun _ => False) wq wq := Kept.refl _ _
  clear hSl
  go_loopw [21] (fun i wr => ∃ j : Nat, i = .int .i64 j ∧ j ≤ n ∧ Kept (fun _ => False) wq wr) (fun i _ => n - (intOf i).toNat)
  case atStart => exact ⟨0, rfl, Nat.zero_le _, K0⟩
  case round =>
    clear K0
    obtain ⟨j, rfl, hj, hK⟩ := hrel
    by_cases hlt : j < n
    · have hz : j < zs.length := by have := HNZ.out; omega
      obtain ⟨g, off, rfl, _⟩ := HV.out.2 (by omega)
      obtain ⟨a0, a1, a2, a3⟩ := (HV.out.kept hK).cells hz
      have hin := HZ.out j hz
      have e1 : (j : Int) < (n : Int) := by omega
      have e0 : (0 : Int) ≤ (j : Int) := by omega
      generalize zs[j] = tt at *
      obtain ⟨s, ge, sp, th⟩ := tt
      simp only at *
      have hq := HH.out _ s (hK.alloc (.cells #[.int .i64 s, .int .i64 ge, .int .i64 sp, .int .i64 th] 374))
      rw [hin] at hq
      have HK : Hid (Kept (fun _ => False) wq (wr.alloc (.cells #[.int .i64 s, .int .i64 ge, .int .i64 sp, .int .i64 th] 374))) := hK.alloc _
      clear hin hK
      go_wp2_with (go_at_call 280; refine hq.mono ?_; rintro e wz ⟨rfl, rfl⟩)
      go_roundw
      case rel => exact ⟨j + 1, by go_num, hlt, HK.out⟩
      case measure => simp [intOf]; omega
    · obtain rfl : j = n := by omega
      have e1 : ¬ (j : Int) < (j : Int) := by omega
      have hq := HC.out _ hK
      have HK : Hid (Kept (fun _ => False) wq wr) := hK
      clear hK
      go_wp2_with (go_at_call 402; refine hq.mono ?_; rintro e wc ⟨v', rfl, ho, hk⟩; obtain ⟨a, cp, rfl⟩ := own_form (own_zero ho))
      go_ret2
      exact ⟨_, _, rfl, HF.out _ _ _ HK.out ho hk⟩

theorem dmDn {w2 w1 : World} {g cap : Nat} {ob : Obj} {x : Vt} (h : St o (dmL K t d vl vv ++ R) w2) (hown : w1.ownsRow 0 374 4 (.slice (some ⟨g, 0, none⟩) (d.dn.length + 1) cap) (d.dn.length + 1) (vtCells d.dn ++ x.cells)) (hgrow : ((w2.alloc ob).drew).grownBy w1 vv.ownBlock) (hat : vv.ownBlock = some g ∨ g = w2.heap.size + 1) :
    St o (dmL K t ⟨d.wy, d.left, d.dn ++ [x]⟩ vl (.slice (some ⟨g, 0, none⟩) (d.dn.length + 1) cap) ++ R) (w1.setCell ⟨K, 3, none⟩ (.slice (some ⟨g, 0, none⟩) (d.dn.length + 1) cap)) ∧ w1.cell? ⟨K, 3, none⟩ = some vv ∧ w1.frozen? ⟨K, 3, none⟩ = false := by
  have e : vtCells (d.dn ++ [x]) = vtCells d.dn ++ x.cells := by rw [vtCells_append]; simp [vtCells]
  rw [← e] at hown
  have el : (d.dn ++ [x]).length = d.dn.length + 1 := by simp
  have a1 := h.growAtD 2 dmAt2 hown hgrow hat
  refine ⟨?_, a1.cell 0 rfl 3, a1.frozen 0 rfl 3⟩
  have a2 := a1.write 0 rfl 3 (.slice (some ⟨g, 0, none⟩) (d.dn.length + 1) cap)
  show St o (_ :: _ :: ownI 374 4 (.slice (some ⟨g, 0, none⟩) (d.dn.length + 1) cap) (d.dn ++ [x]).length (vtCells (d.dn ++ [x])) :: R) _
  rw [el]
  exact a2

set_option maxRecDepth 100000 in
set_option maxHeartbeats 1000000 in
theorem dmIdle0 (h : St o (dmL K A.t d vl vv ++ R) w) (h0 : d.left = []) :
    Calls Tryz.prog 422 #[.pointer (some ⟨K, 0, none⟩)] w fun e w' => e = .returned (.int .i64 3) ∧ w' = w := by
  have hd := dmDone0 h
  rw [decide_eq_true h0] at hd
  clear h
  go_enter Tryz.func422, Tryz.ntmps422
  go_wp2_with (go_at_call 403; refine hd.mono ?_; rintro e wq ⟨rfl, rfl⟩)
  go_ret
  exact ⟨rfl, rfl⟩

theorem slCutV {g off n cap : Nat} (h : n + 1 ≤ cap) : ∃ a cp, (∀ W : World, (Instr.slice 367 (.slice (some ⟨g, off, none⟩) (n + 1) cap) (some (.int .i64 1)) none none).run Tryz.prog W = .ok (.slice a n cp) W) ∧ ((∃ cap', n ≤ cap' ∧ Value.slice a n cp = .slice (some ⟨g, off + 4, none⟩) n cap') ∨ (n = 0 ∧ ∃ a' c', Value.slice a n cp = .slice a' n c')) := by
  have e1 : (1 : Int) ≤ (n : Int) + 1 := by omega
  have e2 : (n : Int) + 1 ≤ (cap : Int) := by omega
  have hc : Tryz.prog.cellsOf 374 = 4 := Tryz.cellsVt
  by_cases hcc : cap = 1
  · subst hcc
    obtain rfl : n = 0 := by omega
    refine ⟨some ⟨g, off, none⟩, 0, fun W => ?_, .inr ⟨rfl, _, _, rfl⟩⟩
    simp [Instr.slice, Instr.sliceBounds, Instr.sliceBound, asIntOf, run_underlying Tryz.underlying367, go_sem]
  · refine ⟨some ⟨g, off + 4, none⟩, cap - 1, fun W => ?_, .inl ⟨cap - 1, by omega, rfl⟩⟩
    have e3 : ¬ cap - 1 = 0 := by omega
    simp [Instr.slice, Instr.sliceBounds, Instr.sliceBound, asIntOf, run_underlying Tryz.underlying367, go_sem, hc, e3]
    rw [if_pos e1, if_neg hcc]
set_option maxRecDepth 100000 in
set_option maxHeartbeats 2000000 in
theorem dmStep0 (h : St o (dmL K A.t d vl vv ++ R) w) (i : Nat) (hi : R[i]? = some (spI A c z v u)) {n : Nat} (ok : z.ok c n) (hn : n ≤ 4611686018427) {x : Vt} {l : List Vt} (hl : d.left = x :: l) (hb : (d.dn.length + 1) * 32 ≤ 140737488355328) :
    Calls Tryz.prog 422 #[.pointer (some ⟨K, 0, none⟩)] w fun e w' => e = .returned (.int .i64 1) ∧ ∃ v' vl' vv', St o (dmL K A.t (d.next z.hs) vl' vv' ++ R.set i (spI A c (z.dooms d) v' u)) w' := by
  obtain ⟨j0, hj0, hy0, hy1, hy2⟩ := info_parts Tryz.infoVt
  have hd := dmDone0 h
  rw [hl, show decide (x :: l = []) = false by simp] at hd
  obtain ⟨wy, left, dn⟩ := d
  simp only at hl hb
  subst hl
  obtain ⟨g, off, cap, rfl, hcap, _, hcs⟩ := h.tailForm 1 dmAt1 (by simp)
  simp only [List.length_cons] at hcap
  obtain ⟨s, ge, sp, th⟩ := x
  have b0 : w.cell? ⟨g, off, none⟩ = some (.int .i64 s) := by simpa using hcs 0 (.int .i64 s) rfl
  have b1 : w.cell? ⟨g, off + 1, none⟩ = some (.int .i64 ge) := hcs 1 (.int .i64 ge) rfl
  have b2 : w.cell? ⟨g, off + 2, none⟩ = some (.int .i64 sp) := hcs 2 (.int .i64 sp) rfl
  have b3 : w.cell? ⟨g, off + 3, none⟩ = some (.int .i64 th) := hcs 3 (.int .i64 th) rfl
  have c2 : w.cell? ⟨K, 2, none⟩ = some (.slice (some ⟨g, off, none⟩) (l.length + 1) cap) := dmCell h 2
  have HE : Hid (Dm.next ⟨wy, ⟨s, ge, sp, th⟩ :: l, dn⟩ z.hs = ⟨wy, l, if (doomOp ge wy).E z.hs s = 0 then dn ++ [⟨s, ge, sp, th⟩] else dn⟩ ∧ z.dooms ⟨wy, ⟨s, ge, sp, th⟩ :: l, dn⟩ = z.op (doomOp ge wy) s) := ⟨rfl, rfl⟩
  rw [HE.out.1, HE.out.2]
  have h3 := (h.box #[.int .i64 s, .int .i64 ge, .int .i64 sp, .int .i64 th] 374).perm (List.perm_middle (l₁ := dmL K A.t ⟨wy, ⟨s, ge, sp, th⟩ :: l, dn⟩ (.slice (some ⟨g, off, none⟩) (l.length + 1) cap) vv)).symm
  obtain ⟨B, HB⟩ : ∃ B, Hid (boxI w.heap.size #[.int .i64 s, .int .i64 ge, .int .i64 sp, .int .i64 th] 374 = B) := ⟨_, rfl⟩
  rw [HB.out] at h3
  obtain ⟨va, vc, hsl, hcv⟩ := slCutV (g := g) (off := off) hcap
  have h4 : St o (dmL K A.t ⟨wy, l, dn⟩ (.slice va l.length vc) vv ++ (B :: R)) ((w.alloc (.cells #[.int .i64 s, .int .i64 ge, .int .i64 sp, .int .i64 th] 374)).setCell ⟨K, 2, none⟩ (.slice va l.length vc)) := by
    have a1 := h3.tailCut 1 dmAt1 hcv
    exact a1.write 0 rfl 2 (.slice va l.length vc)
  have HD : Hid (∀ W vl', St o (dmL K A.t ⟨wy, l, dn⟩ vl' vv ++ (B :: R)) W → Calls Tryz.prog 423 #[.pointer (some ⟨A.t, 0, none⟩), .int .i64 s, .int .i64 ge, .int .i64 wy] W fun e w' => e = .returned (.int .i64 ((doomOp ge wy).E z.hs s)) ∧ ∃ v', St o (dmL K A.t ⟨wy, l, dn⟩ vl' vv ++ (B :: R.set i (spI A c (z.op (doomOp ge wy) s) v' u))) w') := by
    intro W vl' hW
    refine (spDoom hW (3 + (i + 1)) (dmGet (R := B :: R) (i := i + 1) hi) ok hn s ge wy).mono ?_
    rintro e w' ⟨he, v', h'⟩
    rw [dmSet] at h'
    exact ⟨he, v', h'⟩
  have HM : Hid (∀ (R' : List It) W vl' vv' (d' : Dm), St o (dmL K A.t d' vl' vv' ++ (B :: R')) W → (W.cell? ⟨w.heap.size, 0, none⟩ = some (.int .i64 s) ∧ W.cell? ⟨w.heap.size, 1, none⟩ = some (.int .i64 ge) ∧ W.cell? ⟨w.heap.size, 2, none⟩ = some (.int .i64 sp) ∧ W.cell? ⟨w.heap.size, 3, none⟩ = some (.int .i64 th))) := by
    intro R' W vl' vv' d' hW
    have hg : (dmL K A.t d' vl' vv' ++ (B :: R'))[3]? = some (boxI w.heap.size #[.int .i64 s, .int .i64 ge, .int .i64 sp, .int .i64 th] 374) := by rw [HB.out]; rfl
    exact ⟨hW.cell 3 hg 0, hW.cell 3 hg 1, hW.cell 3 hg 2, hW.cell 3 hg 3⟩
  have HX : Hid (∀ (R' : List It) W vl' vv' (d' : Dm), St o (dmL K A.t d' vl' vv' ++ (B :: R')) W → St o (dmL K A.t d' vl' vv' ++ R') W) := fun R' W vl' vv' d' hW => (hW.perm List.perm_middle).pop
  have d2 : (w.alloc (.cells #[.int .i64 s, .int .i64 ge, .int .i64 sp, .int .i64 th] 374)).cell? ⟨K, 2, none⟩ = some (.slice (some ⟨g, off, none⟩) (l.length + 1) cap) := dmCell h3 2
  have df2 := dmFrozen h3 2
  have HL : Hid (∀ W, St o (dmL K A.t ⟨wy, l, dn⟩ (.slice va l.length vc) vv ++ (B :: R)) W → W.cell? ⟨K, 0, none⟩ = some (.pointer (some ⟨A.t, 0, none⟩)) ∧ W.cell? ⟨K, 1, none⟩ = some (.int .i64 wy)) := fun W hW => ⟨dmCell hW 0, dmCell hW 1⟩
  clear hcs hi ok HE h h3 hcv
  generalize hEE : (doomOp ge wy).E z.hs s = EE at *
  generalize z.op (doomOp ge wy) s = z' at *
  have e1 : (0 : Int) < (l.length : Int) + 1 := by omega
  clear hEE
  generalize hn1 : l.length = nl at *
  clear hn1
  go_enter Tryz.func422, Tryz.ntmps422
  go_upto_region 4 with (go_at_call 403; refine hd.mono ?_; rintro e wq ⟨rfl, rfl⟩)
  generalize wq.alloc (.cells #[.int .i64 s, .int .i64 ge, .int .i64 sp, .int .i64 th] 374) = w1 at *
  generalize wq.heap.size = M at *
  clear hd b0 b1 b2 b3 c2
  go_upto_region 5 with fail
  generalize w1.setCell ⟨K, 2, none⟩ (.slice va nl vc) = w2 at *
  clear d2 df2 hsl
  obtain ⟨m0, m1, m2, m3⟩ := HM.out _ _ _ _ _ h4
  obtain ⟨c0, c1⟩ := HL.out _ h4
  have hq1 : Calls Tryz.prog 423 #[.pointer (some ⟨A.t, 0, none⟩), .int .i64 s, .int .i64 ge, .int .i64 wy] w2.drew fun e w' => e = .returned (.int .i64 EE) ∧ (w'.cell? ⟨K, 0, none⟩ = some (.pointer (some ⟨A.t, 0, none⟩)) ∧ w'.cell? ⟨K, 1, none⟩ = some (.int .i64 wy) ∧ w'.cell? ⟨M, 0, none⟩ = some (.int .i64 s) ∧ w'.cell? ⟨M, 1, none⟩ = some (.int .i64 ge)) ∧ ∃ v', Hid (St o (dmL K A.t ⟨wy, l, dn⟩ (.slice va nl vc) vv ++ (B :: R.set i (spI A c z' v' u))) w') := by
    refine (HD.out _ _ h4.drew).mono ?_
    rintro e w' ⟨he, v', h'⟩
    obtain ⟨q0, q1, _, _⟩ := HM.out _ _ _ _ _ h'
    exact ⟨he, ⟨dmCell h' 0, dmCell h' 1, q0, q1⟩, v', h'⟩
  clear h4 HD HL m2 m3
  go_region_held3 (fun W => W.cell? ⟨K, 0, none⟩ = some (.pointer (some ⟨A.t, 0, none⟩)) ∧ W.cell? ⟨K, 1, none⟩ = some (.int .i64 wy) ∧ W.cell? ⟨M, 0, none⟩ = some (.int .i64 s) ∧ W.cell? ⟨M, 1, none⟩ = some (.int .i64 ge)) (first | go_keep | exact rS)
    (first | (go_at_call 423; refine hq1.mono ?_; rintro e w6 ⟨rfl, rS, v', HS⟩))
  clear hq1 c0 c1 m0 m1 rS
  have s6 := HS.out
  clear HS
  by_cases hE : EE = 0
  · have hE2 : (EE == 0) = true := by simp [hE]
    have hown6 : w6.ownsRow 0 374 4 vv dn.length (vtCells dn) := s6.get 2 dmAt2
    obtain ⟨la, lc, rfl⟩ := own_form hown6
    have c3 : w6.cell? ⟨K, 3, none⟩ = some (.slice la dn.length lc) := dmCell s6 3
    have f3 := dmFrozen s6 3
    obtain ⟨m0, m1, m2, m3⟩ := HM.out _ _ _ _ _ s6
    have hbs := buildVt w6 s ge sp th
    have hbs' := buildVt w6.drew s ge sp th
    have cA : ∀ c t, (w6.alloc (.cells c t)).cell? ⟨K, 3, none⟩ = some (.slice la dn.length lc) := fun c t => by rw [World.cell?_of_block (Below.heap_alloc w6 _ K (World.block_lt_of_cell? w6 _ c3))]; exact c3
    have fA : ∀ c t, (w6.alloc (.cells c t)).frozen? ⟨K, 3, none⟩ = false := fun c t => by rw [frozen?_alloc_cells]; exact f3
    have HV : Hid (∀ g2 cap2 w1, w1.ownsRow 0 374 4 (.slice (some ⟨g2, 0, none⟩) (dn.length + 1) cap2) (dn.length + 1) (vtCells dn ++ Vt.cells ⟨s, ge, sp, th⟩) → ((w6.alloc (.cells #[.int .i64 s, .int .i64 ge, .int .i64 sp, .int .i64 th] 374)).drew).grownBy w1 (Value.ownBlock (.slice la dn.length lc)) → (Value.ownBlock (.slice la dn.length lc) = some g2 ∨ g2 = w6.heap.size + 1) →
        St o (dmL K A.t ⟨wy, l, dn ++ [⟨s, ge, sp, th⟩]⟩ (.slice va nl vc) (.slice (some ⟨g2, 0, none⟩) (dn.length + 1) cap2) ++ R.set i (spI A c z' v' u)) (w1.setCell ⟨K, 3, none⟩ (.slice (some ⟨g2, 0, none⟩) (dn.length + 1) cap2)) ∧ w1.cell? ⟨K, 3, none⟩ = some (.slice la dn.length lc) ∧ w1.frozen? ⟨K, 3, none⟩ = false) := by
      intro g2 cap2 w1 p1 p2 p3
      obtain ⟨y1, y2, y3⟩ := dmDn (d := ⟨wy, l, dn⟩) (x := ⟨s, ge, sp, th⟩) s6 p1 p2 p3
      exact ⟨HX.out _ _ _ _ _ y1, y2, y3⟩
    clear s6 HM HX
    generalize dn.length = nd at *
    generalize vtCells dn = VC at *
    go_upto_region 6 with fail
    go_region_law
      ((refine step_append_lies _ (by rfl) _ _ _ (by rfl) 0 374 j0 _ 4 32 Tryz.underlying367 hj0 hy0 hy1 hy2 rfl (by omega) (.slice la nd lc) nd VC (by rfl) ((hown6.alloc _).drew)
          ⟨w6.heap.size, 0, none⟩ 1 1 (Vt.cells ⟨s, ge, sp, th⟩) (by rfl) (by rfl) (World.news_of_block (cs := #[.int .i64 s, .int .i64 ge, .int .i64 sp, .int .i64 th]) (t := 374) (fr := (0, 0)) (heap_alloc_new w6 _)) (by simp [Value.oneCell', Vt.cells])
          (by omega) (by unfold maxLen; omega) (by omega) (Nat.zero_le _) (w6.heap.size + 1) (by simp) ?_; intro g2 cap2 w1 hown1 hgrow hat hlt
        obtain ⟨s8, e4, ef4⟩ := HV.out g2 cap2 w1 hown1 hgrow hat
        have H8 : Hid _ := s8
        clear HV s8 hown1 hgrow hat hlt))
    all_goals (go_wp2; go_ret; exact ⟨rfl, v', _, _, H8.out⟩)
  · have hE2 : (EE == 0) = false := by simp [hE]
    have HF : Hid _ := HX.out _ _ _ _ _ s6
    clear s6 HM HX
    go_wp2
    go_ret
    exact ⟨rfl, v', _, vv, HF.out⟩

theorem dmStep (h : St o its w) (i j : Nat) (hij : i ≠ j) (hi : its[i]? = some (spI A c z v u)) (hj : its[j]? = some (dmI K A.t d vl vv)) {n : Nat} (ok : z.ok c n) (hn : n ≤ 4611686018427) (hb : (d.dn.length + 1) * 32 ≤ 140737488355328) :
    Calls Tryz.prog 422 #[.pointer (some ⟨K, 0, none⟩)] w fun e w' => e = .returned (.int .i64 d.ans) ∧ ∃ v' vl' vv', St o ((its.set i (spI A c (z.dooms d) v' u)).set j (dmI K A.t (d.next z.hs) vl' vv')) w' := by
  obtain ⟨i', hi', hs'⟩ := erase_get hij hi
  unfold Dm.ans
  cases hl : d.left with
  | nil =>
    refine (dmIdle0 (h.open j hj) hl).mono ?_
    rintro e w' ⟨he, rfl⟩
    have e1 : d.next z.hs = d := by unfold Dm.next; rw [hl]
    have e2 : z.dooms d = z := by unfold SSt.dooms; rw [hl]
    rw [e1, e2]
    exact ⟨he, v, vl, vv, by rw [set_back hi, set_back hj]; exact h⟩
  | cons x l =>
    refine (dmStep0 (h.open j hj) i' hi' ok hn hl hb).mono ?_
    rintro e w' ⟨he, v', vl', vv', h'⟩
    rw [hs'] at h'
    exact ⟨he, v', vl', vv', St.shut (l := dmL K A.t (d.next z.hs) vl' vv') (set_other hj hij) h'⟩
theorem dmDone (h : St o its w) (j : Nat) (hj : its[j]? = some (dmI K t d vl vv)) :
    Calls Tryz.prog 403 #[.pointer (some ⟨K, 0, none⟩)] w fun e w' => e = .returned (.bool (decide (d.left = []))) ∧ w' = w := dmDone0 (h.open j hj)
end
end Go.Proofs.YthbcbjkgjgmegaaGreat
