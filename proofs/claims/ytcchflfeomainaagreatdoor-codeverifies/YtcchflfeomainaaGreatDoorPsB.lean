/- One instruction of a text. -/
import Derived.Test.YtcchflfeomainaaGreatDoorPsA
import Derived.Deep.RegionHeld3
namespace Go.Proofs.YtcchflfeomainaaGreatDoor
open Go.RowKit
set_option linter.unusedVariables false
set_option linter.unusedSimpArgs false

theorem index_le (cs : List UInt8) : ∀ l : List UInt8, Lib.indexAny l cs ≤ l.length
  | [] => by simp [Lib.indexAny]
  | b :: l => by
    have := index_le cs l
    unfold Lib.indexAny
    split
    · simp; omega
    · split
      · simp; omega
      · simp; omega
theorem bs_extract (l : List UInt8) (a b : Nat) : (bs l).extract a b = bs ((l.drop a).take (b - a)) := by
  have h := Lib.extract_data (bs l) a b
  rw [← bs_data ((bs l).extract a b), h]
theorem bs_size (l : List UInt8) : (bs l).size = l.length := by simp [ByteArray.size]
theorem opM_lt {x : List UInt8} {n : Nat} (h : opM x = some n) : n < 23 := by
  have := (opFrom_lt 23 0 n h).2.1
  omega
/-- What is known of a reader while a line is read. -/
structure RdW (r bt mb : Nat) (line : Int) (vv : Value) (w : World) : Prop where
  hr : w.heap[r]? = some (.cells (rdC bt mb line vv) 117 (0, 0))
  hT : TabAt 57 bt w
  hE : Env w
theorem RdW.kept {r bt mb : Nat} {line : Int} {vv : Value} {w w' : World} (h : RdW r bt mb line vv w) (k : Kept (fun _ => False) w w') : RdW r bt mb line vv w' :=
  ⟨(k.block r (lt_of_heap h.hr) (fun f => f)).trans h.hr, h.hT.kept k, h.hE.kept k⟩
set_option maxRecDepth 100000 in
set_option maxHeartbeats 1000000 in
theorem instr_any (r bt mb : Nat) (line : Int) (vv : Value) (s : List UInt8) (w : World) (hR : RdW r bt mb line vv w) (hl : s.length ≤ 65536) (h8 : Plain8 s) :
    Calls Tryz.prog 70 #[.pointer (some ⟨r, 0, none⟩), .string (bs s)] w fun e w' => Kept (fun _ => False) w w' ∧ ((∃ d, instrM line s = .ok d ∧ e = .returned (.agg d.cells.toArray)) ∨ (∃ l' e', instrM line s = .error (l', e') ∧ e = .panicked [{ v := .iface 100 (.agg #[.int .i64 l', .int .i64 e']), recovered := false }])) := by
  have k0 := kept_alloc w (.cells #[.int .i64 0, .int .i64 0, .int .i64 0, .string ⟨#[]⟩] 129)
  have hM : (w.alloc (.cells #[.int .i64 0, .int .i64 0, .int .i64 0, .string ⟨#[]⟩] 129)).heap[w.heap.size]? = some (.cells #[.int .i64 0, .int .i64 0, .int .i64 0, .string ⟨#[]⟩] 129 (0, 0)) := heap_alloc_new _ _
  have hi := indexAny_any (w := w.alloc (.cells #[.int .i64 0, .int .i64 0, .int .i64 0, .string ⟨#[]⟩] 129)) s hl h8
  have hle := index_le [32, 9] s
  have HM : ∀ W, Kept (fun _ => False) (w.alloc (.cells #[.int .i64 0, .int .i64 0, .int .i64 0, .string ⟨#[]⟩] 129)) W → Hid (Kept (fun _ => False) w W ∧ RdW r bt mb line vv W ∧ W.heap[w.heap.size]? = some (.cells #[.int .i64 0, .int .i64 0, .int .i64 0, .string ⟨#[]⟩] 129 (0, 0))) := fun W k =>
    ⟨k0.trans k (fun _ _ f => f), hR.kept (k0.trans k (fun _ _ f => f)), (k.block _ (lt_of_heap hM) (fun f => f)).trans hM⟩
  have HI : Hid (instrM line s = match opM (wordOf s) with | none => .error (line, 153) | some op => operM line op (tailOf s)) := rfl
  clear k0 hM hR h8
  go_enter Tryz.func70, Tryz.ntmps70
  go_wp2_with fail
  refine hi.mono ?_
  clear hi
  rintro e w1 ⟨rfl, k1⟩
  by_cases hp : 0 ≤ Lib.indexAny s [32, 9]
  · obtain ⟨k, hk⟩ : ∃ k : Nat, Lib.indexAny s [32, 9] = k := ⟨_, (Int.toNat_of_nonneg hp).symm⟩
    have HW : Hid (wordOf s = s.take k) := by show wordOf s = _; unfold wordOf; rw [if_pos hp, hk]; rfl
    have HT : Hid (tailOf s = Lib.trimLeftS (s.drop k) [32, 9]) := by show tailOf s = _; unfold tailOf; rw [if_pos hp, hk]; rfl
    rw [hk]
    have hle' : (k : Int) ≤ s.length := by rw [← hk]; exact hle
    have h2 : (k : Int) ≤ (bs s).size := by rw [bs_size, ← hk]; exact hle
    have ht := fun W => trimLeft_any (w := W) (s.drop k) (by simp; omega)
    have e1 : (bs s).extract 0 k = bs (s.take k) := by rw [bs_extract]; simp
    have e2 : (bs s).extract k (bs s).size = bs (s.drop k) := by
      rw [bs_extract, bs_size, List.take_of_length_le (by simp)]
    have hlw : (s.take k).length ≤ 65536 := by simp; omega
    have hlr : (Lib.trimLeftS (s.drop k) [32, 9]).length ≤ 65536 := Nat.le_trans (trimLeft_len _ _) (by simp; omega)
    have hK : Kept (fun _ => False) w1 w1.drew := kept_drew w1
    have hb0 : (0 : Int) ≤ (k : Int) := Int.natCast_nonneg _
    have hb1 : k ≤ (bs s).size := by omega
    generalize bs s = S at *
    generalize s.take k = wd at *
    generalize Lib.trimLeftS (s.drop k) [32, 9] = rs at *
    generalize s.drop k = sd at *
    clear hle hp hk
    go_wp2_with fail
    go_region_held3 (fun W => Kept (fun _ => False) w1 W) (first | exact hK | exact hK.drew) (first | (go_at_call 83; refine (ht _).mono ?_; rintro e w2 ⟨rfl, k2⟩; replace hK := hK.trans k2 (fun _ _ f => f)))
    obtain ⟨kq, hRq, hMq⟩ := (HM _ (k1.trans hK (fun _ _ f => f))).out
    clear HM hK k1 ht e1 e2 h2 hb0 hb1 k2
    generalize hM0 : w.heap.size = M0 at *
    have HZ : Hid (w.heap.size = M0) := hM0
    clear hM0
    go_wp2_with fail
    refine (op_any r bt mb line vv wd _ hRq.hr hRq.hT).mono ?_
    rintro e w3 ⟨rfl, ⟨n, hn, rfl⟩ | ⟨hn, rfl⟩⟩
    · have HO : Hid (instrM line s = operM line n rs) := by show _ = _; rw [HI.out, HW.out, hn, HT.out]
      have hn23 := opM_lt hn
      clear HI HW HT hn
      have cl : w3.cell? ⟨r, 1, none⟩ = some (.int .i64 line) := cell_of_heap hRq.hr
      have f0 : ∀ o, (w3.alloc o).cell? ⟨r, 0, none⟩ = some (.slice (some ⟨bt, 0, none⟩) 23 23) := fun o => cell_of_heap (hRq.kept (kept_alloc w3 o)).hr
      have f1 : ∀ o, (w3.alloc o).cell? ⟨r, 1, none⟩ = some (.int .i64 line) := fun o => cell_of_heap (hRq.kept (kept_alloc w3 o)).hr
      have ft : ∀ o, (w3.alloc o).cell? ⟨bt, n * 5 + 1, none⟩ = some (.int .i64 (rowOf (n : Nat)).takes) := fun o => (hRq.kept (kept_alloc w3 o)).hT.takes hn23
      have hMa : ∀ o, (w3.alloc o).heap[M0]? = some (.cells #[.int .i64 0, .int .i64 0, .int .i64 0, .string ⟨#[]⟩] 129 (0, 0)) := fun o => ((kept_alloc w3 o).block M0 (lt_of_heap hMq) (fun f => f)).trans hMq
      have m0 : ∀ o, (w3.alloc o).cell? ⟨M0, 0, none⟩ = some (.int .i64 0) := fun o => cell_of_heap (hMa o)
      have m1 : ∀ o, (w3.alloc o).cell? ⟨M0, 1, none⟩ = some (.int .i64 0) := fun o => cell_of_heap (hMa o)
      have m2 : ∀ o, (w3.alloc o).cell? ⟨M0, 2, none⟩ = some (.int .i64 0) := fun o => cell_of_heap (hMa o)
      have m3 : ∀ o, (w3.alloc o).cell? ⟨M0, 3, none⟩ = some (.string ⟨#[]⟩) := fun o => cell_of_heap (hMa o)
      have mf : ∀ o i, (w3.alloc o).frozen? ⟨M0, i, none⟩ = false := fun o i => frozen_of_heap (hMa o)
      clear hMa
      have b0 : (0 : Int) ≤ (n : Int) := Int.natCast_nonneg _
      have b1 : (n : Int) < (23 : Int) := by omega
      have HO2 := HO.out
      clear HO
      unfold operM at HO2
      generalize (rowOf (n : Int)).takes = tk at *
      by_cases h0 : (tk == 0) = true
      · rw [if_pos h0] at HO2
        by_cases hrs : rs = []
        · rw [if_pos hrs] at HO2
          have HX : Hid (instrM line s = .ok ⟨line, ⟨n, 0⟩, []⟩) := HO2
          subst hrs
          clear HO2 hRq hlr hlw
          go_wp2_with fail
          refine bodyPost_ret (v := .agg #[.int .i64 line, .int .i64 n, .int .i64 0, .string ⟨#[]⟩]) (by simp [results, Tryz.results70, go_sem, m0, m1, m2, m3, mf]) rfl ?_
          exact ⟨(((((kq.alloc _).setCell _ (.inr (Nat.le_of_eq HZ.out))).setCell _ (.inr (Nat.le_of_eq HZ.out))).setCell _ (.inr (Nat.le_of_eq HZ.out))).setCell _ (.inr (Nat.le_of_eq HZ.out))), .inl ⟨_, HX.out, rfl⟩⟩
        · rw [if_neg hrs] at HO2
          have HX : Hid (instrM line s = .error (line, 153)) := HO2
          have hne : (rs == []) = false := by simpa using hrs
          clear HO2 hRq hlr hlw hrs
          go_wp2_with (go_at_call 60; refine (giveUp_any _ _ _).mono ?_; rintro e w4 ⟨rfl, rfl⟩)
          exact ⟨rfl, kq.alloc _, .inr ⟨line, 153, HX.out, rfl⟩⟩
      · rw [if_neg h0] at HO2
        have h0 := Bool.eq_false_iff.2 h0
        have hq := fun W => isName_any (bs rs) W (by rw [bs_size]; exact hlr)
        have ed : (bs rs).data.toList = rs := by simp
        rw [ed] at hq
        clear ed
        by_cases h3 : (tk == 3) = true ∧ nameB rs = true
        · rw [if_pos h3] at HO2
          have HX : Hid (instrM line s = .ok ⟨line, ⟨n, 0⟩, rs⟩) := HO2
          obtain ⟨h3, h4⟩ := h3
          rw [h4] at hq
          clear HO2 hRq hlr hlw h4
          go_wp2_with (go_at_call 81; refine (hq _).mono ?_; rintro e w4 ⟨rfl, rfl⟩)
          refine bodyPost_ret (v := .agg #[.int .i64 line, .int .i64 n, .int .i64 0, .string (bs rs)]) (by simp [results, Tryz.results70, go_sem, m0, m1, m2, m3, mf]) rfl ?_
          exact ⟨(((((kq.alloc _).setCell _ (.inr (Nat.le_of_eq HZ.out))).setCell _ (.inr (Nat.le_of_eq HZ.out))).setCell _ (.inr (Nat.le_of_eq HZ.out))).setCell _ (.inr (Nat.le_of_eq HZ.out))), .inl ⟨_, HX.out, rfl⟩⟩
        · rw [if_neg h3] at HO2
          have hnu := number_any r bt mb line vv rs (w3.alloc (.cells #[.int .i64 line, .int .i64 n, .int .i64 0, .string ⟨#[]⟩] 129)) (hRq.kept (kept_alloc _ _)).hr (hRq.kept (kept_alloc _ _)).hE hlr
          have HK : ∀ W, Kept (fun _ => False) (w3.alloc (.cells #[.int .i64 line, .int .i64 n, .int .i64 0, .string ⟨#[]⟩] 129)) W → Hid (Kept (fun _ => False) w W ∧ W.cell? ⟨r, 1, none⟩ = some (.int .i64 line) ∧ W.heap[M0]? = some (.cells #[.int .i64 0, .int .i64 0, .int .i64 0, .string ⟨#[]⟩] 129 (0, 0)) ∧ W.heap[w3.heap.size]? = some (.cells #[.int .i64 line, .int .i64 n, .int .i64 0, .string ⟨#[]⟩] 129 (0, 0))) := fun W k =>
            ⟨(kq.alloc _).trans k (fun _ _ f => f), cell_of_heap ((hRq.kept (kept_alloc _ _)).kept k).hr, (k.block _ (by have := lt_of_heap hMq; simp; omega) (fun f => f)).trans (((kept_alloc w3 _).block M0 (lt_of_heap hMq) (fun f => f)).trans hMq), (k.block _ (by simp) (fun f => f)).trans (heap_alloc_new _ _)⟩
          have HNE : Hid (M0 < w3.heap.size) := lt_of_heap hMq
          have HRL : Hid (r < w3.heap.size) := lt_of_heap hRq.hr
          have HO3 : Hid (instrM line s = (match numM rs with | none => .error (line, 153) | some v => if mayB tk v v = true then .ok ⟨line, ⟨n, v⟩, []⟩ else .error (line, 153))) := HO2
          clear HO2 hRq hlr hlw
          have hgo : ∃ bb : Bool, ((tk == 3) = true → nameB rs = bb) ∧ ((tk == 3) = true → bb = false) := by
            by_cases h5 : (tk == 3) = true
            · refine ⟨nameB rs, fun _ => rfl, fun _ => ?_⟩
              cases hh : nameB rs
              · rfl
              · exact absurd ⟨h5, hh⟩ h3
            · exact ⟨false, fun h => absurd h h5, fun h => absurd h h5⟩
          clear hgo
          by_cases h5 : (tk == 3) = true
          · have h4 : nameB rs = false := by
              cases hh : nameB rs
              · rfl
              · exact absurd ⟨h5, hh⟩ h3
            rw [h4] at hq
            clear h3 h4
            go_wp2_with (first | (go_at_call 81; refine (hq _).mono ?_; rintro e w4 ⟨rfl, rfl⟩))
            refine hnu.mono ?_
            clear hnu
            rintro e w4 ⟨k4, ⟨v, hv, rfl⟩ | ⟨hv, rfl⟩⟩
            · obtain ⟨kw, cl4, hm4, hd4⟩ := (HK _ k4).out
              have HO4 : Hid (instrM line s = (if mayB tk v v = true then .ok ⟨line, ⟨n, v⟩, []⟩ else .error (line, 153))) := by have := HO3.out; rw [hv] at this; exact this
              have hmy := fun W => mayBe_any tk v v W
              have x0 : w4.cell? ⟨w3.heap.size, 2, none⟩ = some (.int .i64 0) := cell_of_heap hd4
              have x1 : w4.frozen? ⟨w3.heap.size, 2, none⟩ = false := frozen_of_heap hd4
              have kx : Kept (fun _ => False) w (w4.setCell ⟨w3.heap.size, 2, none⟩ (.int .i64 v)) := kw.setCell _ (.inr (by have := HZ.out; have := HNE.out; simp; omega))
              have hd5 : (w4.setCell ⟨w3.heap.size, 2, none⟩ (.int .i64 v)).heap[w3.heap.size]? = some (.cells #[.int .i64 line, .int .i64 n, .int .i64 v, .string ⟨#[]⟩] 129 (0, 0)) := heap_setCell_at hd4 _
              have hm5 : (w4.setCell ⟨w3.heap.size, 2, none⟩ (.int .i64 v)).heap[M0]? = some (.cells #[.int .i64 0, .int .i64 0, .int .i64 0, .string ⟨#[]⟩] 129 (0, 0)) := by
                rw [heap_setCell_far (by have := HNE.out; simp; omega)]; exact hm4
              have cl5 : (w4.setCell ⟨w3.heap.size, 2, none⟩ (.int .i64 v)).cell? ⟨r, 1, none⟩ = some (.int .i64 line) := by
                rw [World.cell?_of_block (heap_setCell_far (by have := HRL.out; simp; omega))]; exact cl4
              clear HK HO3 hd4 hm4 hv k4 kw m0 m1 m2 m3 mf f0 f1 ft cl cl4
              go_upto_region 9 with fail
              generalize w4.setCell ⟨w3.heap.size, 2, none⟩ (.int .i64 v) = w5 at *
              have d0 : w5.cell? ⟨w3.heap.size, 0, none⟩ = some (.int .i64 line) := cell_of_heap hd5
              have d1 : w5.cell? ⟨w3.heap.size, 1, none⟩ = some (.int .i64 n) := cell_of_heap hd5
              have d2 : w5.cell? ⟨w3.heap.size, 2, none⟩ = some (.int .i64 v) := cell_of_heap hd5
              have d3 : w5.cell? ⟨w3.heap.size, 3, none⟩ = some (.string ⟨#[]⟩) := cell_of_heap hd5
              have m0 : w5.cell? ⟨M0, 0, none⟩ = some (.int .i64 0) := cell_of_heap hm5
              have m1 : w5.cell? ⟨M0, 1, none⟩ = some (.int .i64 0) := cell_of_heap hm5
              have m2 : w5.cell? ⟨M0, 2, none⟩ = some (.int .i64 0) := cell_of_heap hm5
              have m3 : w5.cell? ⟨M0, 3, none⟩ = some (.string ⟨#[]⟩) := cell_of_heap hm5
              have mf : ∀ i, w5.frozen? ⟨M0, i, none⟩ = false := fun i => frozen_of_heap hm5
              clear hd5 hm5
              generalize w3.heap.size = M1 at *
              generalize mayB tk v v = bb at *
              cases bb
              · have HX : Hid (instrM line s = .error (line, 153)) := HO4.out
                go_wp2_with (first | (go_at_call 47; refine (hmy _).mono ?_; rintro e w6 ⟨rfl, rfl⟩) | (go_at_call 60; refine (giveUp_any _ _ _).mono ?_; rintro e w7 ⟨rfl, rfl⟩))
                exact ⟨rfl, kx, .inr ⟨line, 153, HX.out, rfl⟩⟩
              · have HX : Hid (instrM line s = .ok ⟨line, ⟨n, v⟩, []⟩) := HO4.out
                go_wp2_with (first | (go_at_call 47; refine (hmy _).mono ?_; rintro e w6 ⟨rfl, rfl⟩))
                refine bodyPost_ret (v := .agg #[.int .i64 line, .int .i64 n, .int .i64 v, .string ⟨#[]⟩]) (by simp [results, Tryz.results70, go_sem, m0, m1, m2, m3, mf]) rfl ?_
                exact ⟨((((kx.setCell _ (.inr (Nat.le_of_eq HZ.out))).setCell _ (.inr (Nat.le_of_eq HZ.out))).setCell _ (.inr (Nat.le_of_eq HZ.out))).setCell _ (.inr (Nat.le_of_eq HZ.out))), .inl ⟨_, HX.out, rfl⟩⟩
            · have HX : Hid (instrM line s = .error (line, 153)) := by have := HO3.out; rw [hv] at this; exact this
              obtain ⟨kw, _⟩ := (HK _ k4).out
              go_wp2
              exact ⟨rfl, kw, .inr ⟨line, 153, HX.out, rfl⟩⟩
          · have h5 := Bool.eq_false_iff.2 h5
            clear h3
            go_wp2_with (first | (go_at_call 81; refine (hq _).mono ?_; rintro e w4 ⟨rfl, rfl⟩))
            refine hnu.mono ?_
            clear hnu
            rintro e w4 ⟨k4, ⟨v, hv, rfl⟩ | ⟨hv, rfl⟩⟩
            · obtain ⟨kw, cl4, hm4, hd4⟩ := (HK _ k4).out
              have HO4 : Hid (instrM line s = (if mayB tk v v = true then .ok ⟨line, ⟨n, v⟩, []⟩ else .error (line, 153))) := by have := HO3.out; rw [hv] at this; exact this
              have hmy := fun W => mayBe_any tk v v W
              have x0 : w4.cell? ⟨w3.heap.size, 2, none⟩ = some (.int .i64 0) := cell_of_heap hd4
              have x1 : w4.frozen? ⟨w3.heap.size, 2, none⟩ = false := frozen_of_heap hd4
              have kx : Kept (fun _ => False) w (w4.setCell ⟨w3.heap.size, 2, none⟩ (.int .i64 v)) := kw.setCell _ (.inr (by have := HZ.out; have := HNE.out; simp; omega))
              have hd5 : (w4.setCell ⟨w3.heap.size, 2, none⟩ (.int .i64 v)).heap[w3.heap.size]? = some (.cells #[.int .i64 line, .int .i64 n, .int .i64 v, .string ⟨#[]⟩] 129 (0, 0)) := heap_setCell_at hd4 _
              have hm5 : (w4.setCell ⟨w3.heap.size, 2, none⟩ (.int .i64 v)).heap[M0]? = some (.cells #[.int .i64 0, .int .i64 0, .int .i64 0, .string ⟨#[]⟩] 129 (0, 0)) := by
                rw [heap_setCell_far (by have := HNE.out; simp; omega)]; exact hm4
              have cl5 : (w4.setCell ⟨w3.heap.size, 2, none⟩ (.int .i64 v)).cell? ⟨r, 1, none⟩ = some (.int .i64 line) := by
                rw [World.cell?_of_block (heap_setCell_far (by have := HRL.out; simp; omega))]; exact cl4
              clear HK HO3 hd4 hm4 hv k4 kw m0 m1 m2 m3 mf f0 f1 ft cl cl4
              go_upto_region 9 with fail
              generalize w4.setCell ⟨w3.heap.size, 2, none⟩ (.int .i64 v) = w5 at *
              have d0 : w5.cell? ⟨w3.heap.size, 0, none⟩ = some (.int .i64 line) := cell_of_heap hd5
              have d1 : w5.cell? ⟨w3.heap.size, 1, none⟩ = some (.int .i64 n) := cell_of_heap hd5
              have d2 : w5.cell? ⟨w3.heap.size, 2, none⟩ = some (.int .i64 v) := cell_of_heap hd5
              have d3 : w5.cell? ⟨w3.heap.size, 3, none⟩ = some (.string ⟨#[]⟩) := cell_of_heap hd5
              have m0 : w5.cell? ⟨M0, 0, none⟩ = some (.int .i64 0) := cell_of_heap hm5
              have m1 : w5.cell? ⟨M0, 1, none⟩ = some (.int .i64 0) := cell_of_heap hm5
              have m2 : w5.cell? ⟨M0, 2, none⟩ = some (.int .i64 0) := cell_of_heap hm5
              have m3 : w5.cell? ⟨M0, 3, none⟩ = some (.string ⟨#[]⟩) := cell_of_heap hm5
              have mf : ∀ i, w5.frozen? ⟨M0, i, none⟩ = false := fun i => frozen_of_heap hm5
              clear hd5 hm5
              generalize w3.heap.size = M1 at *
              generalize mayB tk v v = bb at *
              cases bb
              · have HX : Hid (instrM line s = .error (line, 153)) := HO4.out
                go_wp2_with (first | (go_at_call 47; refine (hmy _).mono ?_; rintro e w6 ⟨rfl, rfl⟩) | (go_at_call 60; refine (giveUp_any _ _ _).mono ?_; rintro e w7 ⟨rfl, rfl⟩))
                exact ⟨rfl, kx, .inr ⟨line, 153, HX.out, rfl⟩⟩
              · have HX : Hid (instrM line s = .ok ⟨line, ⟨n, v⟩, []⟩) := HO4.out
                go_wp2_with (first | (go_at_call 47; refine (hmy _).mono ?_; rintro e w6 ⟨rfl, rfl⟩))
                refine bodyPost_ret (v := .agg #[.int .i64 line, .int .i64 n, .int .i64 v, .string ⟨#[]⟩]) (by simp [results, Tryz.results70, go_sem, m0, m1, m2, m3, mf]) rfl ?_
                exact ⟨((((kx.setCell _ (.inr (Nat.le_of_eq HZ.out))).setCell _ (.inr (Nat.le_of_eq HZ.out))).setCell _ (.inr (Nat.le_of_eq HZ.out))).setCell _ (.inr (Nat.le_of_eq HZ.out))), .inl ⟨_, HX.out, rfl⟩⟩
            · have HX : Hid (instrM line s = .error (line, 153)) := by have := HO3.out; rw [hv] at this; exact this
              obtain ⟨kw, _⟩ := (HK _ k4).out
              go_wp2
              exact ⟨rfl, kw, .inr ⟨line, 153, HX.out, rfl⟩⟩
    · have HO : Hid (instrM line s = .error (line, 153)) := by show _ = _; rw [HI.out, HW.out, hn]
      go_wp2
      exact ⟨rfl, kq, .inr ⟨line, 153, HO.out, rfl⟩⟩
  · have HW : Hid (wordOf s = s) := by show wordOf s = _; unfold wordOf; rw [if_neg hp]
    have HT : Hid (tailOf s = []) := by show tailOf s = _; unfold tailOf; rw [if_neg hp]
    have hm : Lib.indexAny s [32, 9] = -1 := by have := Lib.indexAny_ge [32, 9] s; omega
    rw [hm]
    obtain ⟨kq, hRq, hMq⟩ := (HM _ k1).out
    clear HM k1 hle hp hm
    generalize hM0 : w.heap.size = M0 at *
    have HZ : Hid (w.heap.size = M0) := hM0
    clear hM0
    go_wp2_with fail
    refine (op_any r bt mb line vv s _ hRq.hr hRq.hT).mono ?_
    rintro e w3 ⟨rfl, ⟨n, hn, rfl⟩ | ⟨hn, rfl⟩⟩
    · have HO : Hid (instrM line s = operM line n []) := by show _ = _; rw [HI.out, HW.out, hn, HT.out]
      have hn23 := opM_lt hn
      clear HI HW HT hn
      have cl : w3.cell? ⟨r, 1, none⟩ = some (.int .i64 line) := cell_of_heap hRq.hr
      have f0 : ∀ o, (w3.alloc o).cell? ⟨r, 0, none⟩ = some (.slice (some ⟨bt, 0, none⟩) 23 23) := fun o => cell_of_heap (hRq.kept (kept_alloc w3 o)).hr
      have f1 : ∀ o, (w3.alloc o).cell? ⟨r, 1, none⟩ = some (.int .i64 line) := fun o => cell_of_heap (hRq.kept (kept_alloc w3 o)).hr
      have ft : ∀ o, (w3.alloc o).cell? ⟨bt, n * 5 + 1, none⟩ = some (.int .i64 (rowOf (n : Nat)).takes) := fun o => (hRq.kept (kept_alloc w3 o)).hT.takes hn23
      have hMa : ∀ o, (w3.alloc o).heap[M0]? = some (.cells #[.int .i64 0, .int .i64 0, .int .i64 0, .string ⟨#[]⟩] 129 (0, 0)) := fun o => ((kept_alloc w3 o).block M0 (lt_of_heap hMq) (fun f => f)).trans hMq
      have m0 : ∀ o, (w3.alloc o).cell? ⟨M0, 0, none⟩ = some (.int .i64 0) := fun o => cell_of_heap (hMa o)
      have m1 : ∀ o, (w3.alloc o).cell? ⟨M0, 1, none⟩ = some (.int .i64 0) := fun o => cell_of_heap (hMa o)
      have m2 : ∀ o, (w3.alloc o).cell? ⟨M0, 2, none⟩ = some (.int .i64 0) := fun o => cell_of_heap (hMa o)
      have m3 : ∀ o, (w3.alloc o).cell? ⟨M0, 3, none⟩ = some (.string ⟨#[]⟩) := fun o => cell_of_heap (hMa o)
      have mf : ∀ o i, (w3.alloc o).frozen? ⟨M0, i, none⟩ = false := fun o i => frozen_of_heap (hMa o)
      clear hMa
      have b0 : (0 : Int) ≤ (n : Int) := Int.natCast_nonneg _
      have b1 : (n : Int) < (23 : Int) := by omega
      have HO2 := HO.out
      clear HO
      unfold operM at HO2
      generalize (rowOf (n : Int)).takes = tk at *
      by_cases h0 : (tk == 0) = true
      · rw [if_pos h0, if_pos rfl] at HO2
        have HX : Hid (instrM line s = .ok ⟨line, ⟨n, 0⟩, []⟩) := HO2
        clear HO2 hRq hl
        go_wp2_with fail
        refine bodyPost_ret (v := .agg #[.int .i64 line, .int .i64 n, .int .i64 0, .string ⟨#[]⟩]) (by simp [results, Tryz.results70, go_sem, m0, m1, m2, m3, mf]) rfl ?_
        exact ⟨(((((kq.alloc _).setCell _ (.inr (Nat.le_of_eq HZ.out))).setCell _ (.inr (Nat.le_of_eq HZ.out))).setCell _ (.inr (Nat.le_of_eq HZ.out))).setCell _ (.inr (Nat.le_of_eq HZ.out))), .inl ⟨_, HX.out, rfl⟩⟩
      · have hz : nameB [] = false := rfl
        rw [if_neg h0, if_neg (by rw [hz]; exact fun h => by cases h.2)] at HO2
        have h0 := Bool.eq_false_iff.2 h0
        have hn0 : numM [] = none := rfl
        rw [hn0] at HO2
        have HX : Hid (instrM line s = .error (line, 153)) := HO2
        have hq : ∀ W, Calls Tryz.prog 81 #[.string ⟨#[]⟩] W fun e w' => e = .returned (.bool false) ∧ w' = W := fun W => isName_any ⟨#[]⟩ W (by decide)
        have hnu := number_any r bt mb line vv [] (w3.alloc (.cells #[.int .i64 line, .int .i64 n, .int .i64 0, .string ⟨#[]⟩] 129)) (hRq.kept (kept_alloc _ _)).hr (hRq.kept (kept_alloc _ _)).hE (by simp)
        have hnv : Calls Tryz.prog 85 #[.pointer (some ⟨r, 0, none⟩), .string ⟨#[]⟩] (w3.alloc (.cells #[.int .i64 line, .int .i64 n, .int .i64 0, .string ⟨#[]⟩] 129)) fun e w' => e = .panicked [{ v := .iface 100 (.agg #[.int .i64 line, .int .i64 153]), recovered := false }] ∧ Kept (fun _ => False) (w3.alloc (.cells #[.int .i64 line, .int .i64 n, .int .i64 0, .string ⟨#[]⟩] 129)) w' := by
          refine hnu.mono ?_
          rintro e w' ⟨k, ⟨v, hv, _⟩ | ⟨_, rfl⟩⟩
          · rw [hn0] at hv; cases hv
          · exact ⟨rfl, k⟩
        clear hnu HO2 hRq hl hz hn0
        by_cases h5 : (tk == 3) = true
        · go_wp2_with (first | (go_at_call 81; refine (hq _).mono ?_; rintro e w4 ⟨rfl, rfl⟩) | (go_at_call 85; refine hnv.mono ?_; rintro e w5 ⟨rfl, k5⟩))
          exact ⟨rfl, (kq.alloc _).trans k5 (fun _ _ f => f), .inr ⟨line, 153, HX.out, rfl⟩⟩
        · have h5 := Bool.eq_false_iff.2 h5
          go_wp2_with (first | (go_at_call 85; refine hnv.mono ?_; rintro e w5 ⟨rfl, k5⟩))
          exact ⟨rfl, (kq.alloc _).trans k5 (fun _ _ f => f), .inr ⟨line, 153, HX.out, rfl⟩⟩
    · have HO : Hid (instrM line s = .error (line, 153)) := by show _ = _; rw [HI.out, HW.out, hn]
      go_wp2
      exact ⟨rfl, kq, .inr ⟨line, 153, HO.out, rfl⟩⟩
end Go.Proofs.YtcchflfeomainaaGreatDoor
