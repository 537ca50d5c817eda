/- Entries put in order by the library's sort. -/
import Derived.Test.YtbpilhjomfkpaaaGreatDoorDiC
import Derived.Test.YtbpilhjomfkpaaaGreatDoorSoL
namespace Go.Proofs.YtbpilhjomfkpaaaGreatDoor
open Go.RowKit Go.Sort
open Go.Shelf (Ren)
set_option linter.unusedVariables false
set_option linter.unusedSimpArgs false
attribute [local go_sem ↓] Go.wp_at_zero Go.wp_at_succ

def encP (p : Pr) : List Value := [.int .i64 p.1, .int .i64 p.2]
theorem flat_eC (es : List Pr) : flatK encP 2 es.toArray = (eC es).toArray := by
  apply ext_get!
  · rw [size_flatK]
    simp [eC_length]
  · intro t ht
    rw [size_flatK] at ht
    have ht' : t < es.length * 2 := by simpa using ht
    rw [get_flatK _ _ _ _ ht]
    have hj : t / 2 < es.length := by omega
    obtain ⟨h1, h2⟩ := eC_at es (t / 2) hj
    have e1 : (es.toArray)[t / 2]! = es.getD (t / 2) (0, 0) := by simp [hj]
    have e2 : ((eC es).toArray)[t]! = (eC es).getD t default := by simp
    rw [e1, e2]
    rcases Nat.mod_two_eq_zero_or_one t with hm | hm
    · have : t = t / 2 * 2 := by omega
      have h3 : (eC es).getD t default = .int .i64 (es.getD (t / 2) (0, 0)).1 := by
        rw [List.getD_eq_getElem?_getD, show (eC es)[t]? = some (.int .i64 (es.getD (t / 2) (0, 0)).1) by rw [← h1, ← this]]
        rfl
      rw [hm, h3]
      rfl
    · have : t = t / 2 * 2 + 1 := by omega
      have h3 : (eC es).getD t default = .int .i64 (es.getD (t / 2) (0, 0)).2 := by
        rw [List.getD_eq_getElem?_getD, show (eC es)[t]? = some (.int .i64 (es.getD (t / 2) (0, 0)).2) by rw [← h2, ← this]]
        rfl
      rw [hm, h3]
      rfl
theorem heap_grow {w : World} {os : Array Obj} {k : Nat} (h : k < w.heap.size) : (grow w os).heap[k]? = w.heap[k]? := by
  unfold grow
  exact Array.getElem?_append_left h
theorem sortWorld_st {o w : World} {R : List It} {g cap : Nat} {es L : List Pr} (h : St o (lstE (.slice (some ⟨g, 0, none⟩) es.length cap) es :: R) w) (hl : L.length = es.length) (n : Nat) (os : Array Obj) :
    St o (lstE (.slice (some ⟨g, 0, none⟩) es.length cap) L :: R) (sortWorldK encP 2 w g 0 n L.toArray os) := by
  have p0 : w.ownsRow 0 41 2 (.slice (some ⟨g, 0, none⟩) es.length cap) es.length (eC es) := h.get 0 rfl
  obtain ⟨h1, h2⟩ := p0
  rcases h2 with ⟨hv, _⟩ | ⟨g', cap', cur, hv, hb, hg, hn, hc, hs, ht⟩
  · cases hv
  simp only [Value.slice.injEq, Option.some.injEq, Addr.mk.injEq, true_and, and_true] at hv
  obtain ⟨rfl, rfl⟩ := hv
  have hlt := lt_of_heap hg
  have hsz : (putRowK encP 2 (Sort.ahead w n) g 0 L.toArray).heap.size = w.heap.size := by simp [putRowK, putRow, mapBlock, Sort.ahead]
  have hat : (sortWorldK encP 2 w g 0 n L.toArray os).heap[g]? = some (.cells (putCells id 0 (eC L).toArray cur) 41 (0, 0)) := by
    unfold sortWorldK
    rw [heap_grow (by rw [hsz]; exact hlt)]
    unfold putRowK
    rw [flat_eC]
    simp [putRow, mapBlock, Sort.ahead, hg, onCells, Array.getElem?_modify]
  have hfar : ∀ k, k < w.heap.size → k ≠ g → (sortWorldK encP 2 w g 0 n L.toArray os).heap[k]? = w.heap[k]? := by
    intro k hk hne
    unfold sortWorldK
    rw [heap_grow (by rw [hsz]; exact hk)]
    simp [putRowK, putRow, mapBlock, Sort.ahead, Array.getElem?_modify, Ne.symm hne]
  have hle : w.heap.size ≤ (sortWorldK encP 2 w g 0 n L.toArray os).heap.size := by
    unfold sortWorldK grow
    rw [Array.size_append, hsz]
    omega
  have hk : Kept (fun b => b ∈ (lstE (.slice (some ⟨g, 0, none⟩) es.length cap) es).fp) w (sortWorldK encP 2 w g 0 n L.toArray os) :=
    ⟨rfl, rfl, rfl, hle, fun k hk hne => hfar k hk (fun e => hne (by rw [e]; simp [lstE, ownI, Value.ownBlock]))⟩
  refine h.set 0 rfl (A' := lstE (.slice (some ⟨g, 0, none⟩) es.length cap) L) hk ?_ (own_nodup (.slice (some ⟨g, 0, none⟩) es.length cap)) (fun b hb => .inl hb)
  show World.ownsRow _ 0 41 2 (.slice (some ⟨g, 0, none⟩) es.length cap) L.length (eC L)
  rw [hl]
  refine ⟨by rw [eC_length, hl], .inr ⟨g, cap, _, rfl, Nat.zero_le _, hat, hn, hc, by simpa [putCells] using hs, ?_⟩⟩
  apply List.ext_getElem?
  intro t
  by_cases ht2 : t < es.length * 2
  · have hcur : t < cur.size := by rw [hs]; omega
    rw [List.getElem?_take_of_lt ht2]
    simp only [putCells, Array.getElem?_toList, Array.getElem?_mapIdx, Array.getElem?_eq_getElem hcur, Option.map_some]
    rw [if_pos ⟨Nat.zero_le _, by simp [eC_length, hl]; omega⟩]
    have htL : t < (eC L).length := by rw [eC_length, hl]; exact ht2
    simp [htL]
  · rw [List.getElem?_eq_none (by rw [List.length_take]; omega), List.getElem?_eq_none (by rw [eC_length, hl]; omega)]
theorem ltE (x y : Pr) : ltOf (fun x y : Pr => Lib.compareInt x.1 y.1) x y = decide (x.1 < y.1) := by
  unfold ltOf Lib.compareInt
  by_cases h1 : x.1 < y.1
  · simp [h1]
  · by_cases h2 : y.1 < x.1 <;> simp [h1, h2]
theorem swoE : SWO (ltOf fun x y : Pr => Lib.compareInt x.1 y.1) where
  irrefl x := by rw [ltE]; simp
  trans x y z h1 h2 := by rw [ltE] at *; simp at *; omega
  ntrans x y z h1 h2 := by rw [ltE] at *; simp at *; omega
theorem sorted_is {es L : List Pr} {d' : Array Pr} (hL : Rises L) (hp : L.Perm es) (h1 : PermIn 0 es.toArray.size es.toArray d') (h2 : SortedIn (ltOf fun x y : Pr => Lib.compareInt x.1 y.1) 0 es.toArray.size d') : d' = L.toArray := by
  obtain ⟨hs, _, hperm⟩ := h1
  have hp2 : d'.toList.Perm es := by
    have e1 : (d'.extract 0 es.toArray.size) = d' := by rw [← hs]; simp
    rw [e1] at hperm
    simpa using hperm
  have hap : d'.toList.Pairwise (fun p q => p.1 ≠ q.1) := ((hp2.trans hp.symm).pairwise_iff (fun {_ _} h => Ne.symm h)).2 hL.apart
  have hr : Rises d'.toList := by
    refine List.pairwise_iff_getElem.2 (fun i j hi hj hij => ?_)
    have hne := List.pairwise_iff_getElem.1 hap i j hi hj hij
    have hsz : d'.toList.length = es.toArray.size := by simpa using hs
    have := h2 i j (Nat.zero_le _) hij (by omega)
    rw [ltE] at this
    have ei : d'[i]! = d'.toList[i] := by
      have : i < d'.size := by simpa using hi
      simp [this]
    have ej : d'[j]! = d'.toList[j] := by
      have : j < d'.size := by simpa using hj
      simp [this]
    rw [ei, ej] at this
    simp only [decide_eq_false_iff_not] at this
    omega
  have := rises_eq hr hL (hp2.trans hp.symm)
  rw [← this]
theorem compare_any (x y : Int) (w : World) : Calls Tryz.prog 64 #[.int .i64 x, .int .i64 y] w fun e w' => e = .returned (.int .i64 (Lib.compareInt x y)) ∧ w' = w := by
  unfold Lib.compareInt
  by_cases h1 : x < y
  · simp only [if_pos h1]
    go_enter Tryz.func64, Tryz.ntmps64
    go_wp2
    go_ret
    exact ⟨rfl, rfl⟩
  · by_cases h2 : y < x
    · simp only [if_neg h1, if_pos h2]
      go_enter Tryz.func64, Tryz.ntmps64
      go_wp2
      go_ret
      exact ⟨rfl, rfl⟩
    · simp only [if_neg h1, if_neg h2]
      go_enter Tryz.func64, Tryz.ntmps64
      go_wp2
      go_ret
      exact ⟨rfl, rfl⟩
set_option maxHeartbeats 1000000 in
theorem closure_any (x y : Pr) (W : World) : Calls Tryz.prog 63 #[.agg #[.int .i64 x.1, .int .i64 x.2], .agg #[.int .i64 y.1, .int .i64 y.2]] W fun e w' => e = .returned (.int .i64 (Lib.compareInt x.1 y.1)) ∧ ∃ q os', w' = grow (W.drewN q) os' := by
  have hcon := fun W' => compare_any x.1 y.1 W'
  generalize Lib.compareInt x.1 y.1 = r at hcon ⊢
  go_enter Tryz.func63, Tryz.ntmps63
  go_wp2_with (go_at_call 64; refine (hcon _).mono ?_; rintro e w' ⟨rfl, rfl⟩)
  go_ret
  exact ⟨rfl, 0, _, by rw [alloc_eq_grow, alloc_eq_grow, grow_grow]; rfl⟩
theorem sort_any {o w : World} {R : List It} {g cap : Nat} {es L : List Pr} (h : St o (lstE (.slice (some ⟨g, 0, none⟩) es.length cap) es :: R) w) (hL : Rises L) (hp : L.Perm es) (hn : es.length ≤ 1000000) :
    Calls Tryz.prog 62 #[.slice (some ⟨g, 0, none⟩) es.length cap, .func (.func 63) #[] #[]] w fun e w' => e = .returned (.tuple #[]) ∧ St o (lstE (.slice (some ⟨g, 0, none⟩) es.length cap) L :: R) w' := by
  have eg : ∀ args w, (callFunc 63 args).run Tryz.prog w = .ok (.enter 63 args) w := enters_of Tryz.func63 (by kernel_rfl) rfl
  have p0 : w.ownsRow 0 41 2 (.slice (some ⟨g, 0, none⟩) es.length cap) es.length (eC es) := h.get 0 rfl
  have hH : HoldsK encP 2 w g 0 es.toArray := by
    unfold HoldsK
    rw [flat_eC]
    intro j hj
    have hj2 : j < es.length * 2 := by simpa [eC_length] using hj
    rw [Nat.zero_add]
    refine ⟨?_, p0.frozenAt j⟩
    rw [p0.cellAt j hj2]
    have hj3 : j < (eC es).length := by rw [eC_length]; exact hj2
    simp [hj3]
  have hlt : g < w.heap.size := (p0.lt g (by simp [Value.ownBlock])).2
  have hcmp : CmpLays Tryz.prog 63 #[] encP 2 (fun x y : Pr => Lib.compareInt x.1 y.1) g 0 es.toArray.size w := fun _ _ _ _ x y => closure_any x y _
  have hcon := AnyQ.slices_SortFunc Tryz.sortE 2 Tryz.isAgg41 Tryz.sizeOf41 encP (fun _ => rfl) (fun x v hv => by simp [encP] at hv; rcases hv with rfl | rfl <;> rfl) (fun x y : Pr => Lib.compareInt x.1 y.1) swoE 63 #[] g 0 cap es.toArray w eg hcmp hH hlt (by simp; omega)
  refine Calls.mono (P := Tryz.prog) (f := 62) hcon ?_
  rintro e w' ⟨rfl, d', n, os, h1, h2, rfl⟩
  obtain rfl := sorted_is hL hp h1 h2
  exact ⟨rfl, sortWorld_st h hp.length_eq n os⟩
end Go.Proofs.YtbpilhjomfkpaaaGreatDoor
