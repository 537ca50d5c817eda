/- The program that a text was read as: places in the stead of labels. -/
import Derived.Test.YtcchflfeomainaaGreatDoorPsD
import Derived.Laws.MakeOwn
namespace Go.Proofs.YtcchflfeomainaaGreatDoor
open Go.RowKit
set_option linter.unusedVariables false
set_option linter.unusedSimpArgs false
attribute [local go_sem ↓] Go.wp_at_zero Go.wp_at_succ

theorem buildIn (W : World) (a b : Int) : (Instr.buildSlice 23 1 #[(0, .agg #[.int .i64 a, .int .i64 b])]).run Tryz.prog W = .ok (.slice (some ⟨W.heap.size, 0, none⟩) 1 1) (W.alloc (.cells #[.int .i64 a, .int .i64 b] 48)) := by kernel_rfl
theorem Tryz.infoIn : (Tryz.prog.info? 48).map (fun i => (i.zero, i.size, i.bytes)) = some (some (.agg #[.int .i64 0, .int .i64 0]), 2, 16) := by kernel_rfl
theorem setAll_drop {p : Pst} {j : Nat} (hj : j < p.ds.length) (acc : List Ins) : setAll p (p.ds.drop j) acc = match setM p (p.ds.getD j Dr.zero) with | .error e => .error e | .ok x => setAll p (p.ds.drop (j + 1)) (acc ++ [x]) := by
  rw [List.drop_eq_getElem_cons hj]
  simp only [setAll, List.getD_eq_getElem?_getD, List.getElem?_eq_getElem hj, Option.getD_some]
  cases setM p p.ds[j] <;> rfl
theorem setM_none {p : Pst} {dl op da : Int} : setM p ⟨dl, ⟨op, da⟩, []⟩ = if mayB (rowOf op).takes da p.ds.length = true then .ok ⟨op, da⟩ else .error (dl, 152) := rfl
theorem setM_lab {p : Pst} {dl op da : Int} {lab : List UInt8} (h : lab ≠ []) : setM p ⟨dl, ⟨op, da⟩, lab⟩ = match findM p.ls lab with | none => .error (dl, 154) | some v => if mayB (rowOf op).takes v p.ds.length = true then .ok ⟨op, v⟩ else .error (dl, 152) := by
  simp only [setM, if_neg h]
  cases findM p.ls lab <;> rfl
/-- One step of it, by what it was read as. -/
def stepE (p : Pst) (j : Nat) (acc : List Ins) : Except (Int × Int) Ins → Except (Int × Int) (List Ins)
  | .error e => .error e
  | .ok x => setAll p (p.ds.drop (j + 1)) (acc ++ [x])
theorem setAll_step {p : Pst} {j : Nat} (hj : j < p.ds.length) (acc : List Ins) {d : Dr} (hd : p.ds.getD j Dr.zero = d) : setAll p (p.ds.drop j) acc = stepE p j acc (setM p d) := by
  rw [setAll_drop hj, hd]
  cases setM p d <;> rfl
theorem stepE_if {p : Pst} {j : Nat} {acc : List Ins} {b : Bool} {x : Ins} {e : Int × Int} : stepE p j acc (if b = true then .ok x else .error e) = if b = true then setAll p (p.ds.drop (j + 1)) (acc ++ [x]) else .error e := by
  cases b <;> rfl
/-- The reader's things. -/
def rdL (R : List It) (r bt mb : Nat) (line : Int) (v : Value) (p : Pst) : List It := boxI r (rdC bt mb line v) 117 :: boxI bt tabC 57 :: mapI mb p.ls :: ownI 129 4 v p.ds.length (drCells p.ds) :: R
section
variable {o w : World} {R : List It} {r bt mb : Nat} {line : Int} {v : Value} {p : Pst}
set_option maxRecDepth 100000 in
set_option maxHeartbeats 4000000 in
theorem program_any (h : RdS o R r bt mb line v p w) :
    Calls Tryz.prog 64 #[.pointer (some ⟨r, 0, none⟩)] w fun e w' => Res 100 o (fun l e w' => ∃ lv, e = .returned lv ∧ St o [ownI 48 2 lv l.length (insCells l)] w') (setAll p p.ds []) e w' := by
  obtain ⟨i0, hi0, hz0, hz1, hz2⟩ := info_parts Tryz.infoIn
  obtain ⟨va, vc, rfl⟩ := h.len_v
  have hn4 := h.nds
  have c0 : w.cell? ⟨r, 3, none⟩ = some (.slice va p.ds.length vc) := cell_of_heap h.rdw.hr
  obtain ⟨wm, hmk, hom, hgm⟩ := run_make_own (P := Tryz.prog) w w.heap.size 23 48 i0 _ 2 Tryz.underlying23 hi0 hz0 hz1 .i64 .i64 p.ds.length (by rw [hz2]; omega) (by unfold maxLen; omega) (Nat.le_refl _)
  have hkm : Kept (fun _ => False) w wm := (Kept.refl _ w).grown hgm (fun k e => by cases e)
  have HS : Hid (St o (ownI 48 2 (.slice (some ⟨w.heap.size, 0, none⟩) 0 p.ds.length) ([] : List Ins).length (insCells []) :: rdL R r bt mb line (.slice va p.ds.length vc) p) wm) := h.st.own hkm hom
  have c0m : wm.cell? ⟨r, 3, none⟩ = some (.slice va p.ds.length vc) := cell_of_heap (h.calm hkm).rdw.hr
  have HE : Hid (Env o ∧ p.ls.Pairwise (fun a b => a.1 ≠ b.1) ∧ p.ls.length ≤ 400 ∧ p.ds.length ≤ 400 ∧ ∀ d ∈ p.ds, d.lab.length ≤ 65536 ∧ 0 ≤ d.x.op ∧ d.x.op < 23) := ⟨h.env, h.nd, h.nl, h.nds, h.xs⟩
  generalize w.heap.size = G0 at *
  clear h hom hgm hkm
  go_enter Tryz.func64, Tryz.ntmps64
  go_wp2_with (simp only [hmk])
  clear hmk c0 c0m
  go_loopw [3, 20] (fun lv i wr => ∃ (j : Nat) (acc : List Ins), i = .int .i64 j ∧ j ≤ p.ds.length ∧ acc.length = j ∧ setAll p p.ds [] = setAll p (p.ds.drop j) acc ∧ St o (ownI 48 2 lv acc.length (insCells acc) :: rdL R r bt mb line (.slice va p.ds.length vc) p) wr) (fun _ i _ => p.ds.length - (intOf i).toNat)
  case atStart => exact ⟨0, [], rfl, Nat.zero_le _, rfl, rfl, HS.out⟩
  case round =>
    clear HS
    obtain ⟨j, acc, rfl, hj, hal, hsa, hst⟩ := hrel
    have HA : Hid (setAll p p.ds [] = setAll p (p.ds.drop j) acc) := hsa
    clear hsa
    by_cases hlt : j < p.ds.length
    · have hR : RdS o R r bt mb line (.slice va p.ds.length vc) p wr := ⟨hst.pop, HE.out.1, HE.out.2.1, HE.out.2.2.1, HE.out.2.2.2.1, HE.out.2.2.2.2⟩
      have HA2 : Hid (setAll p p.ds [] = stepE p j acc (setM p (p.ds.getD j Dr.zero))) := HA.out.trans (setAll_step hlt acc rfl)
      have hdm : p.ds.getD j Dr.zero ∈ p.ds := by rw [List.getD_eq_getElem?_getD, List.getElem?_eq_getElem hlt]; exact List.getElem_mem hlt
      obtain ⟨hx1, hx2, hx3⟩ := HE.out.2.2.2.2 _ hdm
      obtain ⟨g, rfl⟩ : ∃ g, va = some ⟨g, 0, none⟩ := by
        rcases hR.own.2 with ⟨h1, h2⟩ | ⟨g, cap, cur, h1, _⟩
        · omega
        · simp only [Value.slice.injEq] at h1; exact ⟨g, h1.1⟩
      have hcell := fun k (hk : k < p.ds.length * 4) => (hR.own.cellAt k hk)
      obtain ⟨y0, y1, y2, y3⟩ := drCells_at p.ds j hlt
      have d0 := (hcell (j * 4) (by omega)).trans y0
      have d1 := (hcell (j * 4 + 1) (by omega)).trans y1
      have d2 := (hcell (j * 4 + 2) (by omega)).trans y2
      have d3 := (hcell (j * 4 + 3) (by omega)).trans y3
      have h0 : (0 : Int) ≤ (j : Int) := Int.natCast_nonneg _
      have h1 : (j : Int) < (p.ds.length : Int) := by omega
      generalize p.ds.getD j Dr.zero = d at *
      obtain ⟨dl, ⟨dop, da⟩, dlab⟩ := d
      simp only at d0 d1 d2 d3 hx1 hx2 hx3
      obtain ⟨m, rfl⟩ : ∃ m : Nat, dop = m := ⟨dop.toNat, by omega⟩
      clear hcell y0 y1 y2 y3 hdm HA hR
      have s5 := (hst.box #[.int .i64 dl, .int .i64 m, .int .i64 da, .string (bs dlab)] 129).box #[.int .i64 m, .int .i64 da] 48
      rw [alloc_size] at s5
      go_upto_region 6 with fail
      generalize (wr.alloc (.cells #[.int .i64 dl, .int .i64 m, .int .i64 da, .string (bs dlab)] 129)).alloc (.cells #[.int .i64 m, .int .i64 da] 48) = w5 at *
      generalize hM : wr.heap.size = M at *
      clear hst d0 d1 d2 d3 hM
      have e3 : w5.cell? ⟨M, 3, none⟩ = some (.string (bs dlab)) := s5.cell 1 rfl 3
      by_cases hlab : dlab = []
      · have hle : (dlab == []) = true := by simp [hlab]
        have HA3 : Hid (setAll p p.ds [] = if mayB (rowOf (m : Int)).takes da p.ds.length = true then setAll p (p.ds.drop (j + 1)) (acc ++ [⟨m, da⟩]) else .error (dl, 152)) := by
          show setAll p p.ds [] = _
          rw [HA2.out, hlab, setM_none, stepE_if]
        have s6 := s5
        clear s5 HA2 hlab e3
        have e3 : w5.cell? ⟨M, 3, none⟩ = some (.string (bs dlab)) := s6.cell 1 rfl 3
        go_upto_region 11 with fail
        clear e3 hle
        generalize w5 = w6 at *
        have z0 : w6.cell? ⟨M + 1, 0, none⟩ = some (.int .i64 m) := s6.cell 0 rfl 0
        have z1 : w6.cell? ⟨M + 1, 1, none⟩ = some (.int .i64 da) := s6.cell 0 rfl 1
        have e0 : w6.cell? ⟨M, 0, none⟩ = some (.int .i64 dl) := s6.cell 1 rfl 0
        have r0 : w6.cell? ⟨r, 0, none⟩ = some (.slice (some ⟨bt, 0, none⟩) 23 23) := s6.cell 3 rfl 0
        have r3 : w6.cell? ⟨r, 3, none⟩ = some (.slice (some ⟨g, 0, none⟩) p.ds.length vc) := s6.cell 3 rfl 3
        have ht : w6.cell? ⟨bt, m * 5 + 1, none⟩ = some (.int .i64 (rowOf (m : Nat)).takes) := (show TabAt 57 bt w6 from s6.get 4 rfl).takes (by omega)
        have hq := fun W => mayBe_any (rowOf (m : Int)).takes da (p.ds.length : Int) W
        have b0 : (0 : Int) ≤ (m : Int) := Int.natCast_nonneg _
        have b1 : (m : Int) < (23 : Int) := by omega
        have HS6 := hid s6
        clear s6
        generalize (rowOf (m : Int)).takes = tk at *
        generalize mayB tk da (p.ds.length : Int) = bb at *
        cases bb
        · have HA4 : Hid (setAll p p.ds [] = .error (dl, 152)) := HA3.out
          go_quiet ((go_at_call 47; exact Calls.quiet_of_same (hq _)))
          go_wp2_with (go_at_call 60; refine (giveUp_any _ _ _).mono ?_; rintro e w3 ⟨rfl, rfl⟩)
          refine ⟨rfl, ?_⟩
          rw [HA4.out]
          exact ⟨rfl, HS6.out.same.drewN _⟩
        · have HA4 : Hid (setAll p p.ds [] = setAll p (p.ds.drop (j + 1)) (acc ++ [⟨m, da⟩])) := HA3.out
          go_quiet ((go_at_call 47; exact Calls.quiet_of_same (hq _)))
          go_upto_region 13 with fail
          have s7 := HS6.out.calm ((Kept.refl _ w6).drewN nq)
          generalize w6.drewN nq = w7 at *
          have y0 : w7.cell? ⟨M + 1, 0, none⟩ = some (.int .i64 m) := s7.cell 0 rfl 0
          have y1 : w7.cell? ⟨M + 1, 1, none⟩ = some (.int .i64 da) := s7.cell 0 rfl 1
          have hown : w7.ownsRow 0 48 2 u3 acc.length (insCells acc) := s7.get 2 rfl
          have hbs := buildIn w7 m da
          have HG : Hid (∀ g2 cap2 w1, w1.ownsRow 0 48 2 (.slice (some ⟨g2, 0, none⟩) (acc.length + 1) cap2) (acc.length + 1) (insCells acc ++ [.int .i64 m, .int .i64 da]) → (w7.alloc (.cells #[.int .i64 m, .int .i64 da] 48)).grownBy w1 u3.ownBlock → (u3.ownBlock = some g2 ∨ g2 = w7.heap.size + 1) → St o (ownI 48 2 (.slice (some ⟨g2, 0, none⟩) (acc.length + 1) cap2) (acc ++ [(⟨m, da⟩ : Ins)]).length (insCells (acc ++ [(⟨m, da⟩ : Ins)])) :: rdL R r bt mb line (.slice (some ⟨g, 0, none⟩) p.ds.length vc) p) w1) := by
            intro g2 cap2 w1 p1 p2 p3
            have a1 := s7.pop.pop.growAt 0 rfl p1 p2 p3
            rw [insCells_append, show (acc ++ [(⟨m, da⟩ : Ins)]).length = acc.length + 1 by simp]
            exact a1
          have hal2 : acc.length ≤ 400 := by omega
          clear s7 HA3
          go_wp2_with (first | (at_builtin; refine wpList_append_lies _ rfl (.tmp 67) (.tmp 69) 23 rfl 0 48 i0 _ 2 16 Tryz.underlying23 hi0 hz0 hz1 hz2 rfl (by omega) u3 acc.length (insCells acc) rfl (hown.alloc _) ⟨w7.heap.size, 0, none⟩ 1 1 [.int .i64 m, .int .i64 da] rfl rfl (World.news_of_block (cs := #[.int .i64 m, .int .i64 da]) (t := 48) (fr := (0, 0)) (heap_alloc_new w7 _)) (by simp [Value.oneCell']) (by omega) (by unfold maxLen; omega) (by omega) (Nat.zero_le _) (w7.heap.size + 1) (by simp) ?_; intro g2 cap2 w8 ho8 hg8 ha8 hl8; replace ho8 := hid (HG.out _ _ _ ho8 hg8 ha8); clear hg8 ha8 hl8) | simp only [hbs])
          go_roundw
          case rel => exact ⟨j + 1, acc ++ [⟨m, da⟩], by simp, by omega, by simp [hal], HA4.out, by have h9 := ho8.out; rw [hal] at h9; exact h9⟩
          case measure => simp [intOf]; omega
      · have hle : (dlab == []) = false := by simpa using hlab
        have hlk := (show MapL w5.drew mb p.ls from s5.get 5 rfl).look HE.out.2.1 hx1
        have c2 : w5.cell? ⟨r, 2, none⟩ = some (.map (some mb)) := s5.cell 3 rfl 2
        have e0 : w5.cell? ⟨M, 0, none⟩ = some (.int .i64 dl) := s5.cell 1 rfl 0
        cases hf : findM p.ls dlab with
        | none =>
          have HA3 : Hid (setAll p p.ds [] = .error (dl, 154)) := by
            show setAll p p.ds [] = _
            rw [HA2.out, setM_lab hlab, hf]
            rfl
          rw [hf] at hlk
          have HK : Hid (Kept (fun _ => False) o w5) := s5.same
          clear s5 HA2 hlab hf
          go_upto_region 7 with fail
          go_region
          go_wp2_with (go_at_call 60; refine (giveUp_any _ _ _).mono ?_; rintro e w3 ⟨rfl, rfl⟩)
          refine ⟨rfl, ?_⟩
          rw [HA3.out]
          exact ⟨rfl, HK.out.drew⟩
        | some fv =>
          have HA3 : Hid (setAll p p.ds [] = if mayB (rowOf (m : Int)).takes fv p.ds.length = true then setAll p (p.ds.drop (j + 1)) (acc ++ [⟨m, fv⟩]) else .error (dl, 152)) := by
            show setAll p p.ds [] = _
            rw [HA2.out, setM_lab hlab, hf]
            exact stepE_if
          rw [hf] at hlk
          have z1 : w5.cell? ⟨M + 1, 1, none⟩ = some (.int .i64 da) := s5.cell 0 rfl 1
          have z2 : w5.frozen? ⟨M + 1, 1, none⟩ = false := s5.frozen 0 rfl 1
          have HS5 := hid s5
          clear s5 HA2 hlab hf
          go_upto_region 7 with fail
          go_region
          go_upto_region 11 with fail
          have s6 := (HS5.out.write 0 rfl 1 (.int .i64 fv)).drew
          generalize (w5.setCell ⟨M + 1, 1, none⟩ (.int .i64 fv)).drew = w6 at *
          have z0 : w6.cell? ⟨M + 1, 0, none⟩ = some (.int .i64 m) := s6.cell 0 rfl 0
          have z1 : w6.cell? ⟨M + 1, 1, none⟩ = some (.int .i64 fv) := s6.cell 0 rfl 1
          have e0 : w6.cell? ⟨M, 0, none⟩ = some (.int .i64 dl) := s6.cell 1 rfl 0
          have r0 : w6.cell? ⟨r, 0, none⟩ = some (.slice (some ⟨bt, 0, none⟩) 23 23) := s6.cell 3 rfl 0
          have r3 : w6.cell? ⟨r, 3, none⟩ = some (.slice (some ⟨g, 0, none⟩) p.ds.length vc) := s6.cell 3 rfl 3
          have ht : w6.cell? ⟨bt, m * 5 + 1, none⟩ = some (.int .i64 (rowOf (m : Nat)).takes) := (show TabAt 57 bt w6 from s6.get 4 rfl).takes (by omega)
          have hq := fun W => mayBe_any (rowOf (m : Int)).takes fv (p.ds.length : Int) W
          have b0 : (0 : Int) ≤ (m : Int) := Int.natCast_nonneg _
          have b1 : (m : Int) < (23 : Int) := by omega
          have HS6 := hid s6
          clear s6
          generalize (rowOf (m : Int)).takes = tk at *
          generalize mayB tk fv (p.ds.length : Int) = bb at *
          cases bb
          · have HA4 : Hid (setAll p p.ds [] = .error (dl, 152)) := HA3.out
            go_quiet ((go_at_call 47; exact Calls.quiet_of_same (hq _)))
            go_wp2_with (go_at_call 60; refine (giveUp_any _ _ _).mono ?_; rintro e w3 ⟨rfl, rfl⟩)
            refine ⟨rfl, ?_⟩
            rw [HA4.out]
            exact ⟨rfl, HS6.out.same.drewN _⟩
          · have HA4 : Hid (setAll p p.ds [] = setAll p (p.ds.drop (j + 1)) (acc ++ [⟨m, fv⟩])) := HA3.out
            go_quiet ((go_at_call 47; exact Calls.quiet_of_same (hq _)))
            go_upto_region 13 with fail
            have s7 := HS6.out.calm ((Kept.refl _ w6).drewN nq)
            generalize w6.drewN nq = w7 at *
            have y0 : w7.cell? ⟨M + 1, 0, none⟩ = some (.int .i64 m) := s7.cell 0 rfl 0
            have y1 : w7.cell? ⟨M + 1, 1, none⟩ = some (.int .i64 fv) := s7.cell 0 rfl 1
            have hown : w7.ownsRow 0 48 2 u3 acc.length (insCells acc) := s7.get 2 rfl
            have hbs := buildIn w7 m fv
            have HG : Hid (∀ g2 cap2 w1, w1.ownsRow 0 48 2 (.slice (some ⟨g2, 0, none⟩) (acc.length + 1) cap2) (acc.length + 1) (insCells acc ++ [.int .i64 m, .int .i64 fv]) → (w7.alloc (.cells #[.int .i64 m, .int .i64 fv] 48)).grownBy w1 u3.ownBlock → (u3.ownBlock = some g2 ∨ g2 = w7.heap.size + 1) → St o (ownI 48 2 (.slice (some ⟨g2, 0, none⟩) (acc.length + 1) cap2) (acc ++ [(⟨m, fv⟩ : Ins)]).length (insCells (acc ++ [(⟨m, fv⟩ : Ins)])) :: rdL R r bt mb line (.slice (some ⟨g, 0, none⟩) p.ds.length vc) p) w1) := by
              intro g2 cap2 w1 p1 p2 p3
              have a1 := s7.pop.pop.growAt 0 rfl p1 p2 p3
              rw [insCells_append, show (acc ++ [(⟨m, fv⟩ : Ins)]).length = acc.length + 1 by simp]
              exact a1
            have hal2 : acc.length ≤ 400 := by omega
            clear s7 HA3
            go_wp2_with (first | (at_builtin; refine wpList_append_lies _ rfl (.tmp 67) (.tmp 69) 23 rfl 0 48 i0 _ 2 16 Tryz.underlying23 hi0 hz0 hz1 hz2 rfl (by omega) u3 acc.length (insCells acc) rfl (hown.alloc _) ⟨w7.heap.size, 0, none⟩ 1 1 [.int .i64 m, .int .i64 fv] rfl rfl (World.news_of_block (cs := #[.int .i64 m, .int .i64 fv]) (t := 48) (fr := (0, 0)) (heap_alloc_new w7 _)) (by simp [Value.oneCell']) (by omega) (by unfold maxLen; omega) (by omega) (Nat.zero_le _) (w7.heap.size + 1) (by simp) ?_; intro g2 cap2 w8 ho8 hg8 ha8 hl8; replace ho8 := hid (HG.out _ _ _ ho8 hg8 ha8); clear hg8 ha8 hl8) | simp only [hbs])
            go_roundw
            case rel => exact ⟨j + 1, acc ++ [⟨m, fv⟩], by simp, by omega, by simp [hal], HA4.out, by have h9 := ho8.out; rw [hal] at h9; exact h9⟩
            case measure => simp [intOf]; omega
    · have HF : Hid (setAll p p.ds [] = .ok acc) := by
        have := HA.out
        rwa [show p.ds.drop j = [] from List.drop_eq_nil_iff.2 (by omega)] at this
      have hoc : St o [ownI 48 2 u3 acc.length (insCells acc)] wr := ⟨by have := hst.nodup; rw [List.flatMap_cons, List.nodup_append] at this; simpa using this.1, fun i hi => hst.all i (List.mem_cons.2 (.inl (List.mem_singleton.1 hi))), fun i hi => hst.high i (List.mem_cons.2 (.inl (List.mem_singleton.1 hi))), hst.kept⟩
      have HO := hid hoc
      clear hoc hst HA
      go_wp2
      go_ret
      rw [HF.out]
      exact ⟨_, rfl, HO.out⟩
end
end Go.Proofs.YtcchflfeomainaaGreatDoor
