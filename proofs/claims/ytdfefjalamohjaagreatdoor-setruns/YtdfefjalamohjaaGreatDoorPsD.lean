/- One instruction of a text. A label of a text. A line of a text. -/
import Derived.Test.YtdfefjalamohjaaGreatDoorPsA
import Derived.Deep.RegionHeld3
import Derived.Deep.RegionLaw
import Derived.Deep.AppendLies
import Derived.Deep.RegionWith
import Derived.RowKit3
import Derived.Deep.DrawnRows
namespace Go.Proofs.YtdfefjalamohjaaGreatDoor
open Go.RowKit
set_option linter.unusedVariables false
set_option linter.unusedSimpArgs false

theorem index_le (cs : List UInt8) : ∀ l : List UInt8, Lib.indexAny l cs ≤ l.length
  | [] => by simp [Lib.indexAny]
  | b :: l => by
    have := index_le cs l
    unfold Lib.indexAny
    split
    · simp; omega
    · split
      · simp; omega
      · simp; omega
theorem bs_extract (l : List UInt8) (a b : Nat) : (bs l).extract a b = bs ((l.drop a).take (b - a)) := by
  have h := Lib.extract_data (bs l) a b
  rw [← bs_data ((bs l).extract a b), h]
theorem bs_size (l : List UInt8) : (bs l).size = l.length := by simp [ByteArray.size]
theorem opM_lt {x : List UInt8} {n : Nat} (h : opM x = some n) : n < 23 := by
  have := (opFrom_lt 23 0 n h).2.1
  omega
/-- What is known of a reader while a line is read. -/
structure RdW (r bt mb : Nat) (line : Int) (vv : Value) (w : World) : Prop where
  hr : w.heap[r]? = some (.cells (rdC bt mb line vv) 142 (0, 0))
  hT : TabAt 127 bt w
  hE : Env w
theorem RdW.kept {r bt mb : Nat} {line : Int} {vv : Value} {w w' : World} (h : RdW r bt mb line vv w) (k : Kept (fun _ => False) w w') : RdW r bt mb line vv w' :=
  ⟨(k.block r (lt_of_heap h.hr) (fun f => f)).trans h.hr, h.hT.kept k, h.hE.kept k⟩
set_option maxRecDepth 100000 in
set_option maxHeartbeats 1000000 in
theorem instr_any (r bt mb : Nat) (line : Int) (vv : Value) (s : List UInt8) (w : World) (hR : RdW r bt mb line vv w) (hl : s.length ≤ 65536) (h8 : Plain8 s) :
    Calls Tryz.prog 96 #[.pointer (some ⟨r, 0, none⟩), .string (bs s)] w fun e w' => Kept (fun _ => False) w w' ∧ ((∃ d, instrM line s = .ok d ∧ e = .returned (.agg d.cells.toArray)) ∨ (∃ l' e', instrM line s = .error (l', e') ∧ e = .panicked [{ v := .iface 119 (.agg #[.int .i64 l', .int .i64 e']), recovered := false }])) := by
  have k0 := kept_alloc w (.cells #[.int .i64 0, .int .i64 0, .int .i64 0, .string ⟨#[]⟩] 154)
  have hM : (w.alloc (.cells #[.int .i64 0, .int .i64 0, .int .i64 0, .string ⟨#[]⟩] 154)).heap[w.heap.size]? = some (.cells #[.int .i64 0, .int .i64 0, .int .i64 0, .string ⟨#[]⟩] 154 (0, 0)) := heap_alloc_new _ _
  have hi := indexAny_any (w := w.alloc (.cells #[.int .i64 0, .int .i64 0, .int .i64 0, .string ⟨#[]⟩] 154)) s hl h8
  have hle := index_le [32, 9] s
  have HM : ∀ W, Kept (fun _ => False) (w.alloc (.cells #[.int .i64 0, .int .i64 0, .int .i64 0, .string ⟨#[]⟩] 154)) W → Hid (Kept (fun _ => False) w W ∧ RdW r bt mb line vv W ∧ W.heap[w.heap.size]? = some (.cells #[.int .i64 0, .int .i64 0, .int .i64 0, .string ⟨#[]⟩] 154 (0, 0))) := fun W k =>
    ⟨k0.trans k (fun _ _ f => f), hR.kept (k0.trans k (fun _ _ f => f)), (k.block _ (lt_of_heap hM) (fun f => f)).trans hM⟩
  have HI : Hid (instrM line s = match opM (wordOf s) with | none => .error (line, 153) | some op => operM line op (tailOf s)) := rfl
  clear k0 hM hR h8
  go_enter Tryz.func96, Tryz.ntmps96
  go_wp2_with fail
  refine hi.mono ?_
  clear hi
  rintro e w1 ⟨rfl, k1⟩
  by_cases hp : 0 ≤ Lib.indexAny s [32, 9]
  · obtain ⟨k, hk⟩ : ∃ k : Nat, Lib.indexAny s [32, 9] = k := ⟨_, (Int.toNat_of_nonneg hp).symm⟩
    have HW : Hid (wordOf s = s.take k) := by show wordOf s = _; unfold wordOf; rw [if_pos hp, hk]; rfl
    have HT : Hid (tailOf s = Lib.trimLeftS (s.drop k) [32, 9]) := by show tailOf s = _; unfold tailOf; rw [if_pos hp, hk]; rfl
    rw [hk]
    have hle' : (k : Int) ≤ s.length := by rw [← hk]; exact hle
    have h2 : (k : Int) ≤ (bs s).size := by rw [bs_size, ← hk]; exact hle
    have ht := fun W => trimLeft_any (w := W) (s.drop k) (by simp; omega)
    have e1 : (bs s).extract 0 k = bs (s.take k) := by rw [bs_extract]; simp
    have e2 : (bs s).extract k (bs s).size = bs (s.drop k) := by
      rw [bs_extract, bs_size, List.take_of_length_le (by simp)]
    have hlw : (s.take k).length ≤ 65536 := by simp; omega
    have hlr : (Lib.trimLeftS (s.drop k) [32, 9]).length ≤ 65536 := Nat.le_trans (trimLeft_len _ _) (by simp; omega)
    have hK : Kept (fun _ => False) w1 w1.drew := kept_drew w1
    have hb0 : (0 : Int) ≤ (k : Int) := Int.natCast_nonneg _
    have hb1 : k ≤ (bs s).size := by omega
    generalize bs s = S at *
    generalize s.take k = wd at *
    generalize Lib.trimLeftS (s.drop k) [32, 9] = rs at *
    generalize s.drop k = sd at *
    clear hle hp hk
    go_wp2_with fail
    go_region_held3 (fun W => Kept (fun _ => False) w1 W) (first | exact hK | exact hK.drew) (first | (go_at_call 111; refine (ht _).mono ?_; rintro e w2 ⟨rfl, k2⟩; replace hK := hK.trans k2 (fun _ _ f => f)))
    obtain ⟨kq, hRq, hMq⟩ := (HM _ (k1.trans hK (fun _ _ f => f))).out
    clear HM hK k1 ht e1 e2 h2 hb0 hb1 k2
    generalize hM0 : w.heap.size = M0 at *
    have HZ : Hid (w.heap.size = M0) := hM0
    clear hM0
    go_wp2_with fail
    refine (op_any r bt mb line vv wd _ hRq.hr hRq.hT).mono ?_
    rintro e w3 ⟨rfl, ⟨n, hn, rfl⟩ | ⟨hn, rfl⟩⟩
    · have HO : Hid (instrM line s = operM line n rs) := by show _ = _; rw [HI.out, HW.out, hn, HT.out]
      have hn23 := opM_lt hn
      clear HI HW HT hn
      have cl : w3.cell? ⟨r, 1, none⟩ = some (.int .i64 line) := cell_of_heap hRq.hr
      have f0 : ∀ o, (w3.alloc o).cell? ⟨r, 0, none⟩ = some (.slice (some ⟨bt, 0, none⟩) 23 23) := fun o => cell_of_heap (hRq.kept (kept_alloc w3 o)).hr
      have f1 : ∀ o, (w3.alloc o).cell? ⟨r, 1, none⟩ = some (.int .i64 line) := fun o => cell_of_heap (hRq.kept (kept_alloc w3 o)).hr
      have ft : ∀ o, (w3.alloc o).cell? ⟨bt, n * 5 + 1, none⟩ = some (.int .i64 (rowOf (n : Nat)).takes) := fun o => (hRq.kept (kept_alloc w3 o)).hT.takes hn23
      have hMa : ∀ o, (w3.alloc o).heap[M0]? = some (.cells #[.int .i64 0, .int .i64 0, .int .i64 0, .string ⟨#[]⟩] 154 (0, 0)) := fun o => ((kept_alloc w3 o).block M0 (lt_of_heap hMq) (fun f => f)).trans hMq
      have m0 : ∀ o, (w3.alloc o).cell? ⟨M0, 0, none⟩ = some (.int .i64 0) := fun o => cell_of_heap (hMa o)
      have m1 : ∀ o, (w3.alloc o).cell? ⟨M0, 1, none⟩ = some (.int .i64 0) := fun o => cell_of_heap (hMa o)
      have m2 : ∀ o, (w3.alloc o).cell? ⟨M0, 2, none⟩ = some (.int .i64 0) := fun o => cell_of_heap (hMa o)
      have m3 : ∀ o, (w3.alloc o).cell? ⟨M0, 3, none⟩ = some (.string ⟨#[]⟩) := fun o => cell_of_heap (hMa o)
      have mf : ∀ o i, (w3.alloc o).frozen? ⟨M0, i, none⟩ = false := fun o i => frozen_of_heap (hMa o)
      clear hMa
      have b0 : (0 : Int) ≤ (n : Int) := Int.natCast_nonneg _
      have b1 : (n : Int) < (23 : Int) := by omega
      have HO2 := HO.out
      clear HO
      unfold operM at HO2
      generalize (rowOf (n : Int)).takes = tk at *
      by_cases h0 : (tk == 0) = true
      · rw [if_pos h0] at HO2
        by_cases hrs : rs = []
        · rw [if_pos hrs] at HO2
          have HX : Hid (instrM line s = .ok ⟨line, ⟨n, 0⟩, []⟩) := HO2
          subst hrs
          clear HO2 hRq hlr hlw
          go_wp2_with fail
          refine bodyPost_ret (v := .agg #[.int .i64 line, .int .i64 n, .int .i64 0, .string ⟨#[]⟩]) (by simp [results, Tryz.results96, go_sem, m0, m1, m2, m3, mf]) rfl ?_
          exact ⟨(((((kq.alloc _).setCell _ (.inr (Nat.le_of_eq HZ.out))).setCell _ (.inr (Nat.le_of_eq HZ.out))).setCell _ (.inr (Nat.le_of_eq HZ.out))).setCell _ (.inr (Nat.le_of_eq HZ.out))), .inl ⟨_, HX.out, rfl⟩⟩
        · rw [if_neg hrs] at HO2
          have HX : Hid (instrM line s = .error (line, 153)) := HO2
          have hne : (rs == []) = false := by simpa using hrs
          clear HO2 hRq hlr hlw hrs
          go_wp2_with (go_at_call 83; refine (giveUp_any _ _ _).mono ?_; rintro e w4 ⟨rfl, rfl⟩)
          exact ⟨rfl, kq.alloc _, .inr ⟨line, 153, HX.out, rfl⟩⟩
      · rw [if_neg h0] at HO2
        have h0 := Bool.eq_false_iff.2 h0
        have hq := fun W => isName_any (bs rs) W (by rw [bs_size]; exact hlr)
        have ed : (bs rs).data.toList = rs := by simp
        rw [ed] at hq
        clear ed
        by_cases h3 : (tk == 3) = true ∧ nameB rs = true
        · rw [if_pos h3] at HO2
          have HX : Hid (instrM line s = .ok ⟨line, ⟨n, 0⟩, rs⟩) := HO2
          obtain ⟨h3, h4⟩ := h3
          rw [h4] at hq
          clear HO2 hRq hlr hlw h4
          go_wp2_with (go_at_call 109; refine (hq _).mono ?_; rintro e w4 ⟨rfl, rfl⟩)
          refine bodyPost_ret (v := .agg #[.int .i64 line, .int .i64 n, .int .i64 0, .string (bs rs)]) (by simp [results, Tryz.results96, go_sem, m0, m1, m2, m3, mf]) rfl ?_
          exact ⟨(((((kq.alloc _).setCell _ (.inr (Nat.le_of_eq HZ.out))).setCell _ (.inr (Nat.le_of_eq HZ.out))).setCell _ (.inr (Nat.le_of_eq HZ.out))).setCell _ (.inr (Nat.le_of_eq HZ.out))), .inl ⟨_, HX.out, rfl⟩⟩
        · rw [if_neg h3] at HO2
          have hnu := number_any r bt mb line vv rs (w3.alloc (.cells #[.int .i64 line, .int .i64 n, .int .i64 0, .string ⟨#[]⟩] 154)) (hRq.kept (kept_alloc _ _)).hr (hRq.kept (kept_alloc _ _)).hE hlr
          have HK : ∀ W, Kept (fun _ => False) (w3.alloc (.cells #[.int .i64 line, .int .i64 n, .int .i64 0, .string ⟨#[]⟩] 154)) W → Hid (Kept (fun _ => False) w W ∧ W.cell? ⟨r, 1, none⟩ = some (.int .i64 line) ∧ W.heap[M0]? = some (.cells #[.int .i64 0, .int .i64 0, .int .i64 0, .string ⟨#[]⟩] 154 (0, 0)) ∧ W.heap[w3.heap.size]? = some (.cells #[.int .i64 line, .int .i64 n, .int .i64 0, .string ⟨#[]⟩] 154 (0, 0))) := fun W k =>
            ⟨(kq.alloc _).trans k (fun _ _ f => f), cell_of_heap ((hRq.kept (kept_alloc _ _)).kept k).hr, (k.block _ (by have := lt_of_heap hMq; simp; omega) (fun f => f)).trans (((kept_alloc w3 _).block M0 (lt_of_heap hMq) (fun f => f)).trans hMq), (k.block _ (by simp) (fun f => f)).trans (heap_alloc_new _ _)⟩
          have HNE : Hid (M0 < w3.heap.size) := lt_of_heap hMq
          have HRL : Hid (r < w3.heap.size) := lt_of_heap hRq.hr
          have HO3 : Hid (instrM line s = (match numM rs with | none => .error (line, 153) | some v => if mayB tk v v = true then .ok ⟨line, ⟨n, v⟩, []⟩ else .error (line, 153))) := HO2
          clear HO2 hRq hlr hlw
          have hgo : ∃ bb : Bool, ((tk == 3) = true → nameB rs = bb) ∧ ((tk == 3) = true → bb = false) := by
            by_cases h5 : (tk == 3) = true
            · refine ⟨nameB rs, fun _ => rfl, fun _ => ?_⟩
              cases hh : nameB rs
              · rfl
              · exact absurd ⟨h5, hh⟩ h3
            · exact ⟨false, fun h => absurd h h5, fun h => absurd h h5⟩
          clear hgo
          by_cases h5 : (tk == 3) = true
          · have h4 : nameB rs = false := by
              cases hh : nameB rs
              · rfl
              · exact absurd ⟨h5, hh⟩ h3
            rw [h4] at hq
            clear h3 h4
            go_wp2_with (first | (go_at_call 109; refine (hq _).mono ?_; rintro e w4 ⟨rfl, rfl⟩))
            refine hnu.mono ?_
            clear hnu
            rintro e w4 ⟨k4, ⟨v, hv, rfl⟩ | ⟨hv, rfl⟩⟩
            · obtain ⟨kw, cl4, hm4, hd4⟩ := (HK _ k4).out
              have HO4 : Hid (instrM line s = (if mayB tk v v = true then .ok ⟨line, ⟨n, v⟩, []⟩ else .error (line, 153))) := by have := HO3.out; rw [hv] at this; exact this
              have hmy := fun W => mayBe_any tk v v W
              have x0 : w4.cell? ⟨w3.heap.size, 2, none⟩ = some (.int .i64 0) := cell_of_heap hd4
              have x1 : w4.frozen? ⟨w3.heap.size, 2, none⟩ = false := frozen_of_heap hd4
              have kx : Kept (fun _ => False) w (w4.setCell ⟨w3.heap.size, 2, none⟩ (.int .i64 v)) := kw.setCell _ (.inr (by have := HZ.out; have := HNE.out; simp; omega))
              have hd5 : (w4.setCell ⟨w3.heap.size, 2, none⟩ (.int .i64 v)).heap[w3.heap.size]? = some (.cells #[.int .i64 line, .int .i64 n, .int .i64 v, .string ⟨#[]⟩] 154 (0, 0)) := heap_setCell_at hd4 _
              have hm5 : (w4.setCell ⟨w3.heap.size, 2, none⟩ (.int .i64 v)).heap[M0]? = some (.cells #[.int .i64 0, .int .i64 0, .int .i64 0, .string ⟨#[]⟩] 154 (0, 0)) := by
                rw [heap_setCell_far (by have := HNE.out; simp; omega)]; exact hm4
              have cl5 : (w4.setCell ⟨w3.heap.size, 2, none⟩ (.int .i64 v)).cell? ⟨r, 1, none⟩ = some (.int .i64 line) := by
                rw [World.cell?_of_block (heap_setCell_far (by have := HRL.out; simp; omega))]; exact cl4
              clear HK HO3 hd4 hm4 hv k4 kw m0 m1 m2 m3 mf f0 f1 ft cl cl4
              go_upto_region 9 with fail
              generalize w4.setCell ⟨w3.heap.size, 2, none⟩ (.int .i64 v) = w5 at *
              have d0 : w5.cell? ⟨w3.heap.size, 0, none⟩ = some (.int .i64 line) := cell_of_heap hd5
              have d1 : w5.cell? ⟨w3.heap.size, 1, none⟩ = some (.int .i64 n) := cell_of_heap hd5
              have d2 : w5.cell? ⟨w3.heap.size, 2, none⟩ = some (.int .i64 v) := cell_of_heap hd5
              have d3 : w5.cell? ⟨w3.heap.size, 3, none⟩ = some (.string ⟨#[]⟩) := cell_of_heap hd5
              have m0 : w5.cell? ⟨M0, 0, none⟩ = some (.int .i64 0) := cell_of_heap hm5
              have m1 : w5.cell? ⟨M0, 1, none⟩ = some (.int .i64 0) := cell_of_heap hm5
              have m2 : w5.cell? ⟨M0, 2, none⟩ = some (.int .i64 0) := cell_of_heap hm5
              have m3 : w5.cell? ⟨M0, 3, none⟩ = some (.string ⟨#[]⟩) := cell_of_heap hm5
              have mf : ∀ i, w5.frozen? ⟨M0, i, none⟩ = false := fun i => frozen_of_heap hm5
              clear hd5 hm5
              generalize w3.heap.size = M1 at *
              generalize mayB tk v v = bb at *
              cases bb
              · have HX : Hid (instrM line s = .error (line, 153)) := HO4.out
                go_wp2_with (first | (go_at_call 70; refine (hmy _).mono ?_; rintro e w6 ⟨rfl, rfl⟩) | (go_at_call 83; refine (giveUp_any _ _ _).mono ?_; rintro e w7 ⟨rfl, rfl⟩))
                exact ⟨rfl, kx, .inr ⟨line, 153, HX.out, rfl⟩⟩
              · have HX : Hid (instrM line s = .ok ⟨line, ⟨n, v⟩, []⟩) := HO4.out
                go_wp2_with (first | (go_at_call 70; refine (hmy _).mono ?_; rintro e w6 ⟨rfl, rfl⟩))
                refine bodyPost_ret (v := .agg #[.int .i64 line, .int .i64 n, .int .i64 v, .string ⟨#[]⟩]) (by simp [results, Tryz.results96, go_sem, m0, m1, m2, m3, mf]) rfl ?_
                exact ⟨((((kx.setCell _ (.inr (Nat.le_of_eq HZ.out))).setCell _ (.inr (Nat.le_of_eq HZ.out))).setCell _ (.inr (Nat.le_of_eq HZ.out))).setCell _ (.inr (Nat.le_of_eq HZ.out))), .inl ⟨_, HX.out, rfl⟩⟩
            · have HX : Hid (instrM line s = .error (line, 153)) := by have := HO3.out; rw [hv] at this; exact this
              obtain ⟨kw, _⟩ := (HK _ k4).out
              go_wp2
              exact ⟨rfl, kw, .inr ⟨line, 153, HX.out, rfl⟩⟩
          · have h5 := Bool.eq_false_iff.2 h5
            clear h3
            go_wp2_with (first | (go_at_call 109; refine (hq _).mono ?_; rintro e w4 ⟨rfl, rfl⟩))
            refine hnu.mono ?_
            clear hnu
            rintro e w4 ⟨k4, ⟨v, hv, rfl⟩ | ⟨hv, rfl⟩⟩
            · obtain ⟨kw, cl4, hm4, hd4⟩ := (HK _ k4).out
              have HO4 : Hid (instrM line s = (if mayB tk v v = true then .ok ⟨line, ⟨n, v⟩, []⟩ else .error (line, 153))) := by have := HO3.out; rw [hv] at this; exact this
              have hmy := fun W => mayBe_any tk v v W
              have x0 : w4.cell? ⟨w3.heap.size, 2, none⟩ = some (.int .i64 0) := cell_of_heap hd4
              have x1 : w4.frozen? ⟨w3.heap.size, 2, none⟩ = false := frozen_of_heap hd4
              have kx : Kept (fun _ => False) w (w4.setCell ⟨w3.heap.size, 2, none⟩ (.int .i64 v)) := kw.setCell _ (.inr (by have := HZ.out; have := HNE.out; simp; omega))
              have hd5 : (w4.setCell ⟨w3.heap.size, 2, none⟩ (.int .i64 v)).heap[w3.heap.size]? = some (.cells #[.int .i64 line, .int .i64 n, .int .i64 v, .string ⟨#[]⟩] 154 (0, 0)) := heap_setCell_at hd4 _
              have hm5 : (w4.setCell ⟨w3.heap.size, 2, none⟩ (.int .i64 v)).heap[M0]? = some (.cells #[.int .i64 0, .int .i64 0, .int .i64 0, .string ⟨#[]⟩] 154 (0, 0)) := by
                rw [heap_setCell_far (by have := HNE.out; simp; omega)]; exact hm4
              have cl5 : (w4.setCell ⟨w3.heap.size, 2, none⟩ (.int .i64 v)).cell? ⟨r, 1, none⟩ = some (.int .i64 line) := by
                rw [World.cell?_of_block (heap_setCell_far (by have := HRL.out; simp; omega))]; exact cl4
              clear HK HO3 hd4 hm4 hv k4 kw m0 m1 m2 m3 mf f0 f1 ft cl cl4
              go_upto_region 9 with fail
              generalize w4.setCell ⟨w3.heap.size, 2, none⟩ (.int .i64 v) = w5 at *
              have d0 : w5.cell? ⟨w3.heap.size, 0, none⟩ = some (.int .i64 line) := cell_of_heap hd5
              have d1 : w5.cell? ⟨w3.heap.size, 1, none⟩ = some (.int .i64 n) := cell_of_heap hd5
              have d2 : w5.cell? ⟨w3.heap.size, 2, none⟩ = some (.int .i64 v) := cell_of_heap hd5
              have d3 : w5.cell? ⟨w3.heap.size, 3, none⟩ = some (.string ⟨#[]⟩) := cell_of_heap hd5
              have m0 : w5.cell? ⟨M0, 0, none⟩ = some (.int .i64 0) := cell_of_heap hm5
              have m1 : w5.cell? ⟨M0, 1, none⟩ = some (.int .i64 0) := cell_of_heap hm5
              have m2 : w5.cell? ⟨M0, 2, none⟩ = some (.int .i64 0) := cell_of_heap hm5
              have m3 : w5.cell? ⟨M0, 3, none⟩ = some (.string ⟨#[]⟩) := cell_of_heap hm5
              have mf : ∀ i, w5.frozen? ⟨M0, i, none⟩ = false := fun i => frozen_of_heap hm5
              clear hd5 hm5
              generalize w3.heap.size = M1 at *
              generalize mayB tk v v = bb at *
              cases bb
              · have HX : Hid (instrM line s = .error (line, 153)) := HO4.out
                go_wp2_with (first | (go_at_call 70; refine (hmy _).mono ?_; rintro e w6 ⟨rfl, rfl⟩) | (go_at_call 83; refine (giveUp_any _ _ _).mono ?_; rintro e w7 ⟨rfl, rfl⟩))
                exact ⟨rfl, kx, .inr ⟨line, 153, HX.out, rfl⟩⟩
              · have HX : Hid (instrM line s = .ok ⟨line, ⟨n, v⟩, []⟩) := HO4.out
                go_wp2_with (first | (go_at_call 70; refine (hmy _).mono ?_; rintro e w6 ⟨rfl, rfl⟩))
                refine bodyPost_ret (v := .agg #[.int .i64 line, .int .i64 n, .int .i64 v, .string ⟨#[]⟩]) (by simp [results, Tryz.results96, go_sem, m0, m1, m2, m3, mf]) rfl ?_
                exact ⟨((((kx.setCell _ (.inr (Nat.le_of_eq HZ.out))).setCell _ (.inr (Nat.le_of_eq HZ.out))).setCell _ (.inr (Nat.le_of_eq HZ.out))).setCell _ (.inr (Nat.le_of_eq HZ.out))), .inl ⟨_, HX.out, rfl⟩⟩
            · have HX : Hid (instrM line s = .error (line, 153)) := by have := HO3.out; rw [hv] at this; exact this
              obtain ⟨kw, _⟩ := (HK _ k4).out
              go_wp2
              exact ⟨rfl, kw, .inr ⟨line, 153, HX.out, rfl⟩⟩
    · have HO : Hid (instrM line s = .error (line, 153)) := by show _ = _; rw [HI.out, HW.out, hn]
      go_wp2
      exact ⟨rfl, kq, .inr ⟨line, 153, HO.out, rfl⟩⟩
  · have HW : Hid (wordOf s = s) := by show wordOf s = _; unfold wordOf; rw [if_neg hp]
    have HT : Hid (tailOf s = []) := by show tailOf s = _; unfold tailOf; rw [if_neg hp]
    have hm : Lib.indexAny s [32, 9] = -1 := by have := Lib.indexAny_ge [32, 9] s; omega
    rw [hm]
    obtain ⟨kq, hRq, hMq⟩ := (HM _ k1).out
    clear HM k1 hle hp hm
    generalize hM0 : w.heap.size = M0 at *
    have HZ : Hid (w.heap.size = M0) := hM0
    clear hM0
    go_wp2_with fail
    refine (op_any r bt mb line vv s _ hRq.hr hRq.hT).mono ?_
    rintro e w3 ⟨rfl, ⟨n, hn, rfl⟩ | ⟨hn, rfl⟩⟩
    · have HO : Hid (instrM line s = operM line n []) := by show _ = _; rw [HI.out, HW.out, hn, HT.out]
      have hn23 := opM_lt hn
      clear HI HW HT hn
      have cl : w3.cell? ⟨r, 1, none⟩ = some (.int .i64 line) := cell_of_heap hRq.hr
      have f0 : ∀ o, (w3.alloc o).cell? ⟨r, 0, none⟩ = some (.slice (some ⟨bt, 0, none⟩) 23 23) := fun o => cell_of_heap (hRq.kept (kept_alloc w3 o)).hr
      have f1 : ∀ o, (w3.alloc o).cell? ⟨r, 1, none⟩ = some (.int .i64 line) := fun o => cell_of_heap (hRq.kept (kept_alloc w3 o)).hr
      have ft : ∀ o, (w3.alloc o).cell? ⟨bt, n * 5 + 1, none⟩ = some (.int .i64 (rowOf (n : Nat)).takes) := fun o => (hRq.kept (kept_alloc w3 o)).hT.takes hn23
      have hMa : ∀ o, (w3.alloc o).heap[M0]? = some (.cells #[.int .i64 0, .int .i64 0, .int .i64 0, .string ⟨#[]⟩] 154 (0, 0)) := fun o => ((kept_alloc w3 o).block M0 (lt_of_heap hMq) (fun f => f)).trans hMq
      have m0 : ∀ o, (w3.alloc o).cell? ⟨M0, 0, none⟩ = some (.int .i64 0) := fun o => cell_of_heap (hMa o)
      have m1 : ∀ o, (w3.alloc o).cell? ⟨M0, 1, none⟩ = some (.int .i64 0) := fun o => cell_of_heap (hMa o)
      have m2 : ∀ o, (w3.alloc o).cell? ⟨M0, 2, none⟩ = some (.int .i64 0) := fun o => cell_of_heap (hMa o)
      have m3 : ∀ o, (w3.alloc o).cell? ⟨M0, 3, none⟩ = some (.string ⟨#[]⟩) := fun o => cell_of_heap (hMa o)
      have mf : ∀ o i, (w3.alloc o).frozen? ⟨M0, i, none⟩ = false := fun o i => frozen_of_heap (hMa o)
      clear hMa
      have b0 : (0 : Int) ≤ (n : Int) := Int.natCast_nonneg _
      have b1 : (n : Int) < (23 : Int) := by omega
      have HO2 := HO.out
      clear HO
      unfold operM at HO2
      generalize (rowOf (n : Int)).takes = tk at *
      by_cases h0 : (tk == 0) = true
      · rw [if_pos h0, if_pos rfl] at HO2
        have HX : Hid (instrM line s = .ok ⟨line, ⟨n, 0⟩, []⟩) := HO2
        clear HO2 hRq hl
        go_wp2_with fail
        refine bodyPost_ret (v := .agg #[.int .i64 line, .int .i64 n, .int .i64 0, .string ⟨#[]⟩]) (by simp [results, Tryz.results96, go_sem, m0, m1, m2, m3, mf]) rfl ?_
        exact ⟨(((((kq.alloc _).setCell _ (.inr (Nat.le_of_eq HZ.out))).setCell _ (.inr (Nat.le_of_eq HZ.out))).setCell _ (.inr (Nat.le_of_eq HZ.out))).setCell _ (.inr (Nat.le_of_eq HZ.out))), .inl ⟨_, HX.out, rfl⟩⟩
      · have hz : nameB [] = false := rfl
        rw [if_neg h0, if_neg (by rw [hz]; exact fun h => by cases h.2)] at HO2
        have h0 := Bool.eq_false_iff.2 h0
        have hn0 : numM [] = none := rfl
        rw [hn0] at HO2
        have HX : Hid (instrM line s = .error (line, 153)) := HO2
        have hq : ∀ W, Calls Tryz.prog 109 #[.string ⟨#[]⟩] W fun e w' => e = .returned (.bool false) ∧ w' = W := fun W => isName_any ⟨#[]⟩ W (by decide)
        have hnu := number_any r bt mb line vv [] (w3.alloc (.cells #[.int .i64 line, .int .i64 n, .int .i64 0, .string ⟨#[]⟩] 154)) (hRq.kept (kept_alloc _ _)).hr (hRq.kept (kept_alloc _ _)).hE (by simp)
        have hnv : Calls Tryz.prog 113 #[.pointer (some ⟨r, 0, none⟩), .string ⟨#[]⟩] (w3.alloc (.cells #[.int .i64 line, .int .i64 n, .int .i64 0, .string ⟨#[]⟩] 154)) fun e w' => e = .panicked [{ v := .iface 119 (.agg #[.int .i64 line, .int .i64 153]), recovered := false }] ∧ Kept (fun _ => False) (w3.alloc (.cells #[.int .i64 line, .int .i64 n, .int .i64 0, .string ⟨#[]⟩] 154)) w' := by
          refine hnu.mono ?_
          rintro e w' ⟨k, ⟨v, hv, _⟩ | ⟨_, rfl⟩⟩
          · rw [hn0] at hv; cases hv
          · exact ⟨rfl, k⟩
        clear hnu HO2 hRq hl hz hn0
        by_cases h5 : (tk == 3) = true
        · go_wp2_with (first | (go_at_call 109; refine (hq _).mono ?_; rintro e w4 ⟨rfl, rfl⟩) | (go_at_call 113; refine hnv.mono ?_; rintro e w5 ⟨rfl, k5⟩))
          exact ⟨rfl, (kq.alloc _).trans k5 (fun _ _ f => f), .inr ⟨line, 153, HX.out, rfl⟩⟩
        · have h5 := Bool.eq_false_iff.2 h5
          go_wp2_with (first | (go_at_call 113; refine hnv.mono ?_; rintro e w5 ⟨rfl, k5⟩))
          exact ⟨rfl, (kq.alloc _).trans k5 (fun _ _ f => f), .inr ⟨line, 153, HX.out, rfl⟩⟩
    · have HO : Hid (instrM line s = .error (line, 153)) := by show _ = _; rw [HI.out, HW.out, hn]
      go_wp2
      exact ⟨rfl, kq, .inr ⟨line, 153, HO.out, rfl⟩⟩
end Go.Proofs.YtdfefjalamohjaaGreatDoor

namespace Go.Proofs.YtdfefjalamohjaaGreatDoor
open Go.RowKit
set_option linter.unusedVariables false
set_option linter.unusedSimpArgs false

/-- A reader, all of it. -/
structure RdS (o : World) (R : List It) (r bt mb : Nat) (line : Int) (v : Value) (p : Pst) (w : World) : Prop where
  st : St o (boxI r (rdC bt mb line v) 142 :: boxI bt tabC 127 :: mapI mb p.ls :: ownI 154 4 v p.ds.length (drCells p.ds) :: R) w
  env : Env o
  nd : p.ls.Pairwise (fun a b => a.1 ≠ b.1)
  nl : p.ls.length ≤ 400
  nds : p.ds.length ≤ 400
  xs : ∀ d ∈ p.ds, d.lab.length ≤ 65536 ∧ 0 ≤ d.x.op ∧ d.x.op < 23
section
variable {o w : World} {R : List It} {r bt mb : Nat} {line : Int} {v : Value} {p : Pst}
theorem RdS.rdw (h : RdS o R r bt mb line v p w) : RdW r bt mb line v w := ⟨h.st.get 0 rfl, h.st.get 1 rfl, h.env.kept h.st.same⟩
theorem RdS.map (h : RdS o R r bt mb line v p w) : MapL w mb p.ls := h.st.get 2 rfl
theorem RdS.own (h : RdS o R r bt mb line v p w) : w.ownsRow 0 154 4 v p.ds.length (drCells p.ds) := h.st.get 3 rfl
theorem RdS.calm {w' : World} (h : RdS o R r bt mb line v p w) (k : Kept (fun _ => False) w w') : RdS o R r bt mb line v p w' := ⟨h.st.calm k, h.env, h.nd, h.nl, h.nds, h.xs⟩
theorem pair_snoc {ls : List Lab} {x : List UInt8} {n : Int} (h : ls.Pairwise (fun a b => a.1 ≠ b.1)) (hf : findM ls x = none) : (ls ++ [(x, n)]).Pairwise (fun a b => a.1 ≠ b.1) := by
  rw [List.pairwise_append]
  refine ⟨h, by simp, fun a ha b hb e => ?_⟩
  rw [List.mem_singleton.1 hb] at e
  unfold findM at hf
  rw [Option.map_eq_none_iff, List.find?_eq_none] at hf
  exact absurd (hf a ha) (by simp [e])
theorem RdS.len_v (h : RdS o R r bt mb line v p w) : ∃ a c, v = .slice a p.ds.length c := by
  rcases h.own.2 with ⟨h1, h2⟩ | ⟨g, cap, cur, h1, _⟩
  · exact ⟨none, 0, by rw [h1, h2]⟩
  · exact ⟨_, cap, h1⟩
set_option maxRecDepth 100000 in
set_option maxHeartbeats 1000000 in
theorem label_any (x : List UInt8) (hx : x.length ≤ 65536) (h : RdS o R r bt mb line v p w) :
    Calls Tryz.prog 95 #[.pointer (some ⟨r, 0, none⟩), .string (bs x)] w fun e w' => Res 119 o (fun p' e w' => e = .returned (.tuple #[]) ∧ RdS o R r bt mb line v p' w') (labelM line x p) e w' := by
  have hr : w.heap[r]? = some (.cells (rdC bt mb line v) 142 (0, 0)) := h.rdw.hr
  have c1 : w.cell? ⟨r, 1, none⟩ = some (.int .i64 line) := cell_of_heap hr
  have c2 : w.cell? ⟨r, 2, none⟩ = some (.map (some mb)) := cell_of_heap hr
  have hq := fun W => isName_any (bs x) W (by rw [bs_size]; exact hx)
  have ed : (bs x).data.toList = x := by simp
  rw [ed] at hq
  clear ed
  unfold labelM
  have HK : Hid (Kept (fun _ => False) o w) := h.st.same
  by_cases hn : nameB x = false
  · rw [if_pos hn]
    rw [hn] at hq
    clear h hr hn
    go_enter Tryz.func95, Tryz.ntmps95
    go_wp2_with (first | (go_at_call 109; refine (hq _).mono ?_; rintro e w1 ⟨rfl, rfl⟩) | (go_at_call 83; refine (giveUp_any _ _ _).mono ?_; rintro e w2 ⟨rfl, rfl⟩))
    exact ⟨rfl, rfl, HK.out⟩
  · rw [if_neg hn]
    have hn := Bool.not_eq_false _ ▸ hn
    rw [hn] at hq
    have hlk := h.map.look h.nd hx
    by_cases hf : (findM p.ls x).isSome = true
    · rw [if_pos hf]
      rw [hf] at hlk
      generalize (findM p.ls x).getD 0 = fv at *
      clear h hr hn
      go_enter Tryz.func95, Tryz.ntmps95
      go_wp2_with (first | (go_at_call 109; refine (hq _).mono ?_; rintro e w1 ⟨rfl, rfl⟩) | (go_at_call 83; refine (giveUp_any _ _ _).mono ?_; rintro e w2 ⟨rfl, rfl⟩))
      exact ⟨rfl, rfl, HK.out⟩
    · rw [if_neg hf]
      have hf := Bool.eq_false_iff.2 hf
      rw [hf] at hlk
      have hnone : findM p.ls x = none := by simpa using hf
      generalize (findM p.ls x).getD 0 = fv at *
      have hlen := fun ty => h.map.len ty
      by_cases h4 : p.ls.length = 400
      · rw [if_pos h4]
        rw [h4] at hlen
        clear h hr hn hf
        go_enter Tryz.func95, Tryz.ntmps95
        go_wp2_with (first | (go_at_call 109; refine (hq _).mono ?_; rintro e w1 ⟨rfl, rfl⟩) | (go_at_call 83; refine (giveUp_any _ _ _).mono ?_; rintro e w2 ⟨rfl, rfl⟩) | simp only [hlen])
        exact ⟨rfl, rfl, HK.out⟩
      · rw [if_neg h4]
        have h4' : ((p.ls.length : Int) == 400) = false := by simp; omega
        obtain ⟨va, vc, hv⟩ := h.len_v
        have c3 : w.cell? ⟨r, 3, none⟩ = some (.slice va p.ds.length vc) := by rw [← hv]; exact cell_of_heap hr
        obtain ⟨w', hst, hkm, hm'⟩ := (show MapL w.drew mb p.ls from h.map).store hx hnone (p.ds.length : Int)
        have HX : Hid (RdS o R r bt mb line v ⟨p.ls ++ [(x, (p.ds.length : Int))], p.ds⟩ w') := by
          refine ⟨?_, h.env, pair_snoc h.nd hnone, ?_, h.nds, h.xs⟩
          · exact h.st.drew.set 2 (A' := mapI mb (p.ls ++ [(x, (p.ds.length : Int))])) rfl (hkm.mono (fun b _ e => by rw [e]; exact List.mem_singleton.2 rfl)) hm' (by simp [mapI]) (fun b hb => .inl hb)
          · have := h.nl; simp; omega
        generalize p.ls.length = ln at *
        generalize p.ds.length = dn at *
        clear h hr hn hf hkm hm' hnone hv
        go_enter Tryz.func95, Tryz.ntmps95
        go_wp2_with (first | (go_at_call 109; refine (hq _).mono ?_; rintro e w1 ⟨rfl, rfl⟩) | simp only [hlen])
        go_region
        go_wp2
        go_end0
        exact ⟨rfl, HX.out⟩
end
end Go.Proofs.YtdfefjalamohjaaGreatDoor

namespace Go.Proofs.YtdfefjalamohjaaGreatDoor
open Go.RowKit
set_option linter.unusedVariables false
set_option linter.unusedSimpArgs false
attribute [local go_sem ↓] Go.wp_at_zero Go.wp_at_succ

theorem St.ownGrow {o w w' : World} {its : List It} (h : St o its w) (i : Nat) {e : TypeId} {z n n' : Nat} {v v' : Value} {xs xs' : List Value} (hi : its[i]? = some (ownI e z v n xs)) (p : w'.ownsRow 0 e z v' n' xs') (k : Kept (fun b => v.ownBlock = some b) w w') (hf : v'.ownBlock = v.ownBlock ∨ ∃ g, v'.ownBlock = some g ∧ w.heap.size ≤ g) : St o (its.set i (ownI e z v' n' xs')) w' := by
  refine h.set i hi (k.mono (fun b _ hb => by simp [ownI, hb])) p (own_nodup v') (fun b hb => ?_)
  simp only [ownI] at hb ⊢
  rcases hf with hf | ⟨g, hg, hlt⟩
  · rw [hf] at hb; exact .inl hb
  · rw [hg] at hb
    right
    simp at hb
    omega
section
variable {o w : World} {its : List It}
/-- An own list behind an append of one. -/
theorem St.growAt {w2 w1 : World} (h : St o its w2) (i : Nat) {e : TypeId} {sz n n' g cap : Nat} {v : Value} {xs xs' : List Value} {ob : Obj} (hi : its[i]? = some (ownI e sz v n xs)) (hown : w1.ownsRow 0 e sz (.slice (some ⟨g, 0, none⟩) n' cap) n' xs') (hgrow : (w2.alloc ob).grownBy w1 v.ownBlock) (hat : v.ownBlock = some g ∨ g = w2.heap.size + 1) : St o (its.set i (ownI e sz (.slice (some ⟨g, 0, none⟩) n' cap) n' xs')) w1 := by
  refine h.ownGrow i hi hown (((Kept.refl _ w2).alloc ob).grown hgrow (fun k e => .inl e)) ?_
  rcases hat with e | e
  · exact .inl (by rw [e]; rfl)
  · exact .inr ⟨g, rfl, by omega⟩
theorem St.growAtD {w2 w1 : World} (h : St o its w2) (i : Nat) {e : TypeId} {sz n n' g cap : Nat} {v : Value} {xs xs' : List Value} {ob : Obj} (hi : its[i]? = some (ownI e sz v n xs)) (hown : w1.ownsRow 0 e sz (.slice (some ⟨g, 0, none⟩) n' cap) n' xs') (hgrow : ((w2.alloc ob).drew).grownBy w1 v.ownBlock) (hat : v.ownBlock = some g ∨ g = w2.heap.size + 1) : St o (its.set i (ownI e sz (.slice (some ⟨g, 0, none⟩) n' cap) n' xs')) w1 := by
  refine h.ownGrow i hi hown ((((Kept.refl _ w2).alloc ob).drew).grown hgrow (fun k e => .inl e)) ?_
  rcases hat with e | e
  · exact .inl (by rw [e]; rfl)
  · exact .inr ⟨g, rfl, by omega⟩
end

theorem buildDr (W : World) (a b c : Int) (d : ByteArray) : (Instr.buildSlice 140 1 #[(0, .agg #[.int .i64 a, .int .i64 b, .int .i64 c, .string d])]).run Tryz.prog W = .ok (.slice (some ⟨W.heap.size, 0, none⟩) 1 1) (W.alloc (.cells #[.int .i64 a, .int .i64 b, .int .i64 c, .string d] 154)) := by kernel_rfl
theorem Tryz.infoDr : (Tryz.prog.info? 154).map (fun i => (i.zero, i.size, i.bytes)) = some (some (.agg #[.int .i64 0, .int .i64 0, .int .i64 0, .string ⟨#[]⟩]), 4, 40) := by kernel_rfl
section
variable {o w : World} {R : List It} {r bt mb : Nat} {line : Int} {v : Value} {p : Pst}
theorem instr_ok {line : Int} {s : List UInt8} {d : Dr} (h : instrM line s = .ok d) (hs : s.length ≤ 65536) : d.lab.length ≤ 65536 ∧ 0 ≤ d.x.op ∧ d.x.op < 23 := by
  unfold instrM at h
  split at h
  · cases h
  · rename_i op ho
    have h23 := opM_lt ho
    have ht : (tailOf s).length ≤ 65536 := by
      unfold tailOf
      split
      · exact Nat.le_trans (trimLeft_len _ _) (by simp; omega)
      · simp
    unfold operM at h
    split at h
    · split at h
      · cases h; exact ⟨by simp, by simp, by simp; omega⟩
      · cases h
    · split at h
      · cases h; exact ⟨ht, by simp, by simp; omega⟩
      · split at h
        · cases h
        · split at h
          · cases h; exact ⟨by simp, by simp, by simp; omega⟩
          · cases h
set_option maxRecDepth 100000 in
set_option maxHeartbeats 2000000 in
theorem take_any (s : List UInt8) (hs : s.length ≤ 65536) (h8 : Plain8 s) (h : RdS o R r bt mb line v p w) :
    Calls Tryz.prog 85 #[.pointer (some ⟨r, 0, none⟩), .string (bs s)] w fun e w' => Res 119 o (fun p' e w' => e = .returned (.tuple #[]) ∧ ∃ v', RdS o R r bt mb line v' p' w') (takeM line s p) e w' := by
  obtain ⟨i0, hi0, hz0, hz1, hz2⟩ := info_parts Tryz.infoDr
  unfold takeM
  by_cases h0 : s = []
  · rw [if_pos h0]
    subst h0
    go_enter Tryz.func85, Tryz.ntmps85
    go_wp2
    go_end0
    exact ⟨rfl, v, h⟩
  · rw [if_neg h0]
    have hne : (s == []) = false := by simpa using h0
    have hc := fun W => cutSuffix_any (w := W) s hs
    by_cases hsuf : Lib.hasSuffix s [58] = true
    · rw [if_pos hsuf]
      have hlen : (Lib.trimSuffix s [58]).length ≤ 65536 := by
        unfold Lib.trimSuffix
        split
        · simp; omega
        · first | exact hs | (simp; omega)
      have hlb := label_any (Lib.trimSuffix s [58]) hlen h
      rw [hsuf] at hc
      generalize Lib.trimSuffix s [58] = x at *
      generalize labelM line x p = L at *
      clear h hsuf h0 hlen
      cases L with
      | error le =>
        obtain ⟨l', e'⟩ := le
        simp only [Res] at hlb ⊢
        go_enter Tryz.func85, Tryz.ntmps85
        go_wp2_with (first | (go_at_call 94; refine (hc _).mono ?_; rintro e w1 ⟨rfl, rfl⟩) | (go_at_call 95; refine hlb.mono ?_; rintro e w2 ⟨rfl, hk⟩))
        exact ⟨rfl, rfl, hk⟩
      | ok p' =>
        simp only [Res] at hlb ⊢
        go_enter Tryz.func85, Tryz.ntmps85
        go_wp2_with (first | (go_at_call 94; refine (hc _).mono ?_; rintro e w1 ⟨rfl, rfl⟩) | (go_at_call 95; refine hlb.mono ?_; rintro e w2 ⟨rfl, hk⟩; replace hk := hid hk))
        first | go_end0 | refine bodyPost_ret (results_none rfl _ _ _) rfl ?_
        exact ⟨rfl, v, hk.out⟩
    · rw [if_neg hsuf]
      have hsuf := Bool.eq_false_iff.2 hsuf
      rw [hsuf] at hc
      have hin := instr_any r bt mb line v s w h.rdw hs h8
      have HH : Hid (RdS o R r bt mb line v p w) := h
      generalize Lib.trimSuffix s [58] = x at *
      clear h hsuf h0
      cases hd : instrM line s with
      | error le =>
        obtain ⟨l', e'⟩ := le
        have hin2 : Calls Tryz.prog 96 #[.pointer (some ⟨r, 0, none⟩), .string (bs s)] w fun e w' => e = .panicked [{ v := .iface 119 (.agg #[.int .i64 l', .int .i64 e']), recovered := false }] ∧ Kept (fun _ => False) o w' := by
          refine hin.mono ?_
          rintro e w2 ⟨k2, ⟨d, hd2, _⟩ | ⟨l2, e2, hd2, rfl⟩⟩
          · rw [hd] at hd2; cases hd2
          · rw [hd] at hd2; cases hd2
            exact ⟨rfl, HH.out.st.same.trans k2 (fun _ _ f => f)⟩
        simp only [Res]
        clear hin hd HH
        go_enter Tryz.func85, Tryz.ntmps85
        go_wp2_with (first | (go_at_call 94; refine (hc _).mono ?_; rintro e w1 ⟨rfl, rfl⟩) | (go_at_call 96; refine hin2.mono ?_; rintro e w2 ⟨rfl, hk⟩))
        exact ⟨rfl, rfl, hk⟩
      | ok d =>
        have hin2 : Calls Tryz.prog 96 #[.pointer (some ⟨r, 0, none⟩), .string (bs s)] w fun e w' => e = .returned (.agg d.cells.toArray) ∧ RdS o R r bt mb line v p w' := by
          refine hin.mono ?_
          rintro e w2 ⟨k2, ⟨d2, hd2, rfl⟩ | ⟨l2, e2, hd2, _⟩⟩
          · rw [hd] at hd2; cases hd2
            exact ⟨rfl, HH.out.calm k2⟩
          · rw [hd] at hd2; cases hd2
        have hok := instr_ok hd hs
        clear hin hd HH
        simp only
        obtain ⟨dl, ⟨dop, da⟩, dlab⟩ := d
        simp only [Dr.cells] at hin2
        by_cases h4 : p.ds.length = 400
        · rw [if_pos h4]
          simp only [Res]
          go_enter Tryz.func85, Tryz.ntmps85
          go_wp2_with (first | (go_at_call 94; refine (hc _).mono ?_; rintro e w1 ⟨rfl, rfl⟩))
          refine hin2.mono ?_
          clear hin2
          rintro e w2 ⟨rfl, h2⟩
          obtain ⟨va, vc, rfl⟩ := h2.len_v
          have h4' : ((p.ds.length : Int) == 400) = true := by simp [h4]
          have HK : Hid (Kept (fun _ => False) o w2) := h2.st.same
          have c3 : ∀ ob, (w2.alloc ob).cell? ⟨r, 3, none⟩ = some (.slice va p.ds.length vc) := fun ob => cell_of_heap (h2.rdw.kept (kept_alloc w2 ob)).hr
          have c1 : ∀ ob, (w2.alloc ob).cell? ⟨r, 1, none⟩ = some (.int .i64 line) := fun ob => cell_of_heap (h2.rdw.kept (kept_alloc w2 ob)).hr
          generalize p.ds.length = dn at *
          clear h2 h4 hok
          go_wp2_with (first | (go_at_call 83; refine (giveUp_any _ _ _).mono ?_; rintro e w3 ⟨rfl, rfl⟩))
          exact ⟨rfl, rfl, HK.out.alloc _⟩
        · rw [if_neg h4]
          simp only [Res]
          have h4' : ((p.ds.length : Int) == 400) = false := by simp; omega
          go_enter Tryz.func85, Tryz.ntmps85
          go_wp2_with (first | (go_at_call 94; refine (hc _).mono ?_; rintro e w1 ⟨rfl, rfl⟩))
          refine hin2.mono ?_
          clear hin2
          rintro e w2 ⟨rfl, h2⟩
          obtain ⟨va, vc, rfl⟩ := h2.len_v
          have h3 := h2.calm (kept_alloc w2 (.cells #[.int .i64 dl, .int .i64 dop, .int .i64 da, .string (bs dlab)] 154))
          have hd0 : ∀ j u, (#[.int .i64 dl, .int .i64 dop, .int .i64 da, .string (bs dlab)] : Array Value)[j]? = some u → (w2.alloc (.cells #[.int .i64 dl, .int .i64 dop, .int .i64 da, .string (bs dlab)] 154)).cell? ⟨w2.heap.size, j, none⟩ = some u := fun j u hu => (cell_of_heap (heap_alloc_new _ _)).trans hu
          have e0 := hd0 0 _ rfl
          have e1 := hd0 1 _ rfl
          have e2 := hd0 2 _ rfl
          have e3 := hd0 3 _ rfl
          clear h2 hd0
          go_upto_region 5 with fail
          generalize w2.heap.size = M at *
          generalize w2.alloc (.cells #[.int .i64 dl, .int .i64 dop, .int .i64 da, .string (bs dlab)] 154) = w6 at *
          have hown6 : w6.ownsRow 0 154 4 (.slice va p.ds.length vc) p.ds.length (drCells p.ds) := h3.own
          have c3 : w6.cell? ⟨r, 3, none⟩ = some (.slice va p.ds.length vc) := cell_of_heap h3.rdw.hr
          have f3 : w6.frozen? ⟨r, 3, none⟩ = false := frozen_of_heap h3.rdw.hr
          have c1 : w6.cell? ⟨r, 1, none⟩ = some (.int .i64 line) := cell_of_heap h3.rdw.hr
          have hbs := buildDr w6 dl dop da (bs dlab)
          have hbs' := buildDr w6.drew dl dop da (bs dlab)
          have cA : ∀ c t, (w6.alloc (.cells c t)).cell? ⟨r, 3, none⟩ = some (.slice va p.ds.length vc) := fun c t => by rw [World.cell?_of_block (Below.heap_alloc w6 _ r (World.block_lt_of_cell? w6 _ c3))]; exact c3
          have fA : ∀ c t, (w6.alloc (.cells c t)).frozen? ⟨r, 3, none⟩ = false := fun c t => by rw [frozen?_alloc_cells]; exact f3
          have HV : Hid (∀ g2 cap2 w1, w1.ownsRow 0 154 4 (.slice (some ⟨g2, 0, none⟩) (p.ds.length + 1) cap2) (p.ds.length + 1) (drCells p.ds ++ [.int .i64 dl, .int .i64 dop, .int .i64 da, .string (bs dlab)]) → ((w6.alloc (.cells #[.int .i64 dl, .int .i64 dop, .int .i64 da, .string (bs dlab)] 154)).drew).grownBy w1 (Value.ownBlock (.slice va p.ds.length vc)) → (Value.ownBlock (.slice va p.ds.length vc) = some g2 ∨ g2 = w6.heap.size + 1) →
              RdS o R r bt mb line (.slice (some ⟨g2, 0, none⟩) (p.ds.length + 1) cap2) ⟨p.ls, p.ds ++ [⟨dl, ⟨dop, da⟩, dlab⟩]⟩ (w1.setCell ⟨r, 3, none⟩ (.slice (some ⟨g2, 0, none⟩) (p.ds.length + 1) cap2)) ∧ w1.cell? ⟨r, 3, none⟩ = some (.slice va p.ds.length vc) ∧ w1.frozen? ⟨r, 3, none⟩ = false) := by
            intro g2 cap2 w1 p1 p2 p3
            have a1 := h3.st.growAtD 3 rfl (n' := p.ds.length + 1) (xs' := drCells p.ds ++ [.int .i64 dl, .int .i64 dop, .int .i64 da, .string (bs dlab)]) p1 p2 p3
            refine ⟨⟨?_, h3.env, h3.nd, h3.nl, ?_, ?_⟩, a1.cell 0 rfl 3, a1.frozen 0 rfl 3⟩
            · have a2 := a1.write 0 rfl 3 (.slice (some ⟨g2, 0, none⟩) (p.ds.length + 1) cap2)
              have el : (p.ds ++ [(⟨dl, ⟨dop, da⟩, dlab⟩ : Dr)]).length = p.ds.length + 1 := by simp
              have ec : drCells (p.ds ++ [(⟨dl, ⟨dop, da⟩, dlab⟩ : Dr)]) = drCells p.ds ++ [.int .i64 dl, .int .i64 dop, .int .i64 da, .string (bs dlab)] := by rw [drCells_append]; simp [drCells, Dr.cells]
              show St o (_ :: _ :: _ :: ownI _ _ _ (p.ds ++ [(⟨dl, ⟨dop, da⟩, dlab⟩ : Dr)]).length (drCells (p.ds ++ [(⟨dl, ⟨dop, da⟩, dlab⟩ : Dr)])) :: R) _
              rw [el, ec]
              exact a2
            · have := h3.nds; simp; omega
            · intro d hd
              rcases List.mem_append.1 hd with hd | hd
              · exact h3.xs d hd
              · rw [List.mem_singleton.1 hd]; exact hok
          have hds := h3.nds
          clear h3 h4 hok
          have HV2 := HV
          clear HV
          generalize p.ds.length = nv at *
          generalize drCells p.ds = VC at *
          go_upto_region 7 with fail
          go_region_law
            ((refine step_append_lies _ (by rfl) _ _ _ (by rfl) 0 154 i0 _ 4 40 Tryz.underlying140 hi0 hz0 hz1 hz2 rfl (by omega) (.slice va nv vc) nv VC (by rfl) ((hown6.alloc _).drew)
                ⟨w6.heap.size, 0, none⟩ 1 1 [.int .i64 dl, .int .i64 dop, .int .i64 da, .string (bs dlab)] (by rfl) (by rfl) (World.news_of_block (cs := #[.int .i64 dl, .int .i64 dop, .int .i64 da, .string (bs dlab)]) (t := 154) (fr := (0, 0)) (heap_alloc_new w6 _)) (by simp [Value.oneCell'])
                (by omega) (by unfold maxLen; omega) (by omega) (Nat.zero_le _) (w6.heap.size + 1) (by simp) ?_; intro g2 cap2 w1 hown1 hgrow hat hlt
              obtain ⟨s8, e4, ef4⟩ := HV2.out g2 cap2 w1 hown1 hgrow hat
              have H8 := hid s8
              clear HV2 s8 hown1 hgrow hat hlt))
          all_goals (go_wp2; go_end0; exact ⟨rfl, _, H8.out⟩)
end
end Go.Proofs.YtdfefjalamohjaaGreatDoor
