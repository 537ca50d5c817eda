/- The document's log: Drop. Same: two lists. -/
import Derived.Test.YtoejhbecogmdbaaRefB
namespace Go.Proofs.Ytoejhbecogmdbaa
open Go.RowKit
set_option linter.unusedVariables false
set_option linter.unusedSimpArgs false

section
variable {w : World} {p : Nat} {most : Int} {kv vv : Value} {ps : List (Value × Value)}
set_option maxRecDepth 100000 in
theorem dropR_no (h : RefAt w p most kv vv ps) {k : Int} (hn : ∀ x ∈ ps, x.1 ≠ .int .i64 k) :
    Calls Try.prog 31 #[.pointer (some ⟨p, 0, none⟩), .int .i64 k] w fun e w' => e = .returned (.bool false) ∧ w' = w := by
  have hF := findR_no h hn
  clear h hn
  go_enter Try.func31, Try.ntmps31
  go_wp2_with fail
  refine hF.mono ?_
  rintro e w1 ⟨rfl, rfl⟩
  go_wp2
  go_ret
  exact ⟨rfl, rfl⟩
theorem take_erase_lt {ps : List (Value × Value)} {i c : Nat} (hc : c < i) (hl : c < ps.length) : (ps.eraseIdx i).take (c + 1) = (ps.eraseIdx i).take c ++ [ps[c]] := by
  rw [List.take_add_one, erase_at, if_pos hc, List.getElem?_eq_getElem hl]
  rfl
theorem take_erase_gt {ps : List (Value × Value)} {i c : Nat} (hc : i < c) (hl : c < ps.length) : (ps.eraseIdx i).take c = (ps.eraseIdx i).take (c - 1) ++ [ps[c]] := by
  obtain ⟨d, rfl⟩ : ∃ d, c = d + 1 := ⟨c - 1, by omega⟩
  rw [List.take_add_one, erase_at, if_neg (by omega), List.getElem?_eq_getElem hl]
  rfl
/-- How many are laid behind one another when c were looked at. -/
def laid (i c : Nat) : Nat := if c ≤ i then c else c - 1
set_option maxRecDepth 100000 in
set_option maxHeartbeats 4000000 in
theorem dropR_at (h : RefAt w p most kv vv ps) {i : Nat} {k : Int} {u : Value} (hi : ps[i]? = some (.int .i64 k, u)) :
    Calls Try.prog 31 #[.pointer (some ⟨p, 0, none⟩), .int .i64 k] w fun e w' => e = .returned (.bool true) ∧ RTurned w w' p most kv vv (ps.eraseIdx i) := by
  obtain ⟨i0, hi0, hz0, hz1, hz2⟩ := info_parts Try.info3
  obtain ⟨i2, hi2, hy0, hy1, hy2⟩ := info_parts Try.info2
  have hF := findR_at h hi
  have hlt := (List.getElem?_eq_some_iff.1 hi).1
  have hsm := h.small
  obtain ⟨g, cap, rfl, _⟩ := h.keyAt hi
  obtain ⟨g', cap', rfl, _⟩ := h.valAt hi
  have HH : Hid (RefAt w p most (.slice (some ⟨g, 0, none⟩) ps.length cap) (.slice (some ⟨g', 0, none⟩) ps.length cap') ps) := h
  have hgi : ¬ (i : Int) < 0 := by omega
  clear h hi
  go_enter Try.func31, Try.ntmps31
  go_wp2_with fail
  refine hF.mono ?_
  rintro e w1 ⟨rfl, rfl⟩
  clear hF
  go_wp2_with fail
  go_loopw [6, 7, 8] (fun a b j wr => ∃ c : Nat, j = .int .i64 c ∧ c ≤ ps.length ∧ Kept (fun b => w1.heap.size ≤ b) w1 wr ∧ wr.ownsRow w1.heap.size 3 1 a (laid i c) (((ps.eraseIdx i).take (laid i c)).map Prod.fst) ∧ wr.ownsRow w1.heap.size 2 1 b (laid i c) (((ps.eraseIdx i).take (laid i c)).map Prod.snd) ∧ (∀ g, a.ownBlock = some g → b.ownBlock ≠ some g)) (fun _ _ j _ => ps.length - (intOf j).toNat)
  case atStart => exact ⟨0, rfl, Nat.zero_le _, Kept.refl _ _, by simpa [laid] using World.ownsRow_nil _ _ _ _, by simpa [laid] using World.ownsRow_nil _ _ _ _, by simp [Value.ownBlock]⟩
  case round =>
    obtain ⟨c, rfl, hc, hk, ha, hb, hab⟩ := hrel
    have h := HH.out
    have hr := h.loc (w' := wr) (fun b hb => hk.block b (h.old b hb) (by have := h.old b hb; omega))
    have c1 := hr.c1
    have c2 := hr.c2
    by_cases hcl : c < ps.length
    · have hx : ps[c]? = some ps[c] := List.getElem?_eq_getElem hcl
      obtain ⟨kc, hkc, _⟩ := h.keys _ (List.mem_of_getElem? hx)
      obtain ⟨uc, huc⟩ := h.vals _ (List.mem_of_getElem? hx)
      obtain ⟨_, _, hv1, e1⟩ := hr.keyAt hx
      cases hv1
      obtain ⟨_, _, hv2, e2⟩ := hr.valAt hx
      cases hv2
      rw [hkc] at e1
      rw [huc] at e2
      have b1 : (0 : Int) ≤ c := Int.natCast_nonneg _
      have b2 : (c : Int) < ps.length := by omega
      by_cases heq : c = i
      · subst heq
        have e3 : laid c (c + 1) = laid c c := by simp [laid]
        have HR : Hid (Kept (fun b => w1.heap.size ≤ b) w1 wr ∧ wr.ownsRow w1.heap.size 3 1 u6 (laid c c) (((ps.eraseIdx c).take (laid c c)).map Prod.fst) ∧ wr.ownsRow w1.heap.size 2 1 u7 (laid c c) (((ps.eraseIdx c).take (laid c c)).map Prod.snd) ∧ (∀ g, u6.ownBlock = some g → u7.ownBlock ≠ some g)) := ⟨hk, ha, hb, hab⟩
        clear hk ha hb hab hkc huc hx h hr
        go_wp2
        go_roundw
        case rel => exact ⟨c + 1, by go_num, by omega, by rw [e3]; exact HR.out⟩
        case measure => simp [intOf]; omega
      · have e3 : laid i (c + 1) = laid i c + 1 := by unfold laid; split <;> split <;> omega
        have e4 : (ps.eraseIdx i).take (laid i c + 1) = (ps.eraseIdx i).take (laid i c) ++ [ps[c]] := by
          unfold laid
          split
          · exact take_erase_lt (by omega) hcl
          · rw [show c - 1 + 1 = c by omega]
            exact take_erase_gt (by omega) hcl
        have hL : laid i c ≤ 4096 := by unfold laid; split <;> omega
        have hne : ((c : Int) == i) = false := by simp; omega
        have hQ : ∀ w2, (wr.alloc (.cells #[.int .i64 kc] 3)).grownBy w2 u6.ownBlock → ∀ b, b < w1.heap.size → w2.heap[b]? = wr.heap[b]? := fun w2 hg b hb' => by
          have hs := hk.size
          rw [hg.block b (by rw [alloc_size]; omega) (fun e => by have := (ha.lt b e.symm).1; omega)]
          exact Below.heap_alloc wr _ b (by omega)
        have hV : ∀ w2, (wr.alloc (.cells #[.int .i64 kc] 3)).grownBy w2 u6.ownBlock → w2.ownsRow w1.heap.size 2 1 u7 (laid i c) (((ps.eraseIdx i).take (laid i c)).map Prod.snd) := fun w2 hg =>
          own_loc hb (fun b hbb => by
            have := (hb.lt b hbb).2
            rw [hg.block b (by rw [alloc_size]; omega) (fun e => hab b e.symm hbb)]
            exact Below.heap_alloc wr _ b this)
        have hE : ∀ w2 w4 g3 cap3 g4 cap4, (wr.alloc (.cells #[.int .i64 kc] 3)).grownBy w2 u6.ownBlock → w2.ownsRow w1.heap.size 3 1 (.slice (some ⟨g3, 0, none⟩) (laid i c + 1) cap3) (laid i c + 1) (((ps.eraseIdx i).take (laid i c)).map Prod.fst ++ [.int .i64 kc]) → (u6.ownBlock = some g3 ∨ g3 = wr.heap.size + 1) →
            (w2.alloc (.cells #[.int .i64 uc] 2)).grownBy w4 u7.ownBlock → w4.ownsRow w1.heap.size 2 1 (.slice (some ⟨g4, 0, none⟩) (laid i c + 1) cap4) (laid i c + 1) (((ps.eraseIdx i).take (laid i c)).map Prod.snd ++ [.int .i64 uc]) → (u7.ownBlock = some g4 ∨ g4 = w2.heap.size + 1) →
            Kept (fun b => w1.heap.size ≤ b) w1 w4 ∧ w4.ownsRow w1.heap.size 3 1 (.slice (some ⟨g3, 0, none⟩) (laid i c + 1) cap3) (laid i (c + 1)) (((ps.eraseIdx i).take (laid i (c + 1))).map Prod.fst) ∧ w4.ownsRow w1.heap.size 2 1 (.slice (some ⟨g4, 0, none⟩) (laid i c + 1) cap4) (laid i (c + 1)) (((ps.eraseIdx i).take (laid i (c + 1))).map Prod.snd) ∧ (∀ g, (Value.slice (some ⟨g3, 0, none⟩) (laid i c + 1) cap3).ownBlock = some g → (Value.slice (some ⟨g4, 0, none⟩) (laid i c + 1) cap4).ownBlock ≠ some g) := by
          intro w2 w4 g3 cap3 g4 cap4 hg3 ho3 ha3 hg4 ho4 ha4
          have hg3l := (ho3.lt g3 rfl).2
          have n3 : u7.ownBlock ≠ some g3 := by
            rcases ha3 with h3 | h3
            · exact hab g3 h3
            · intro e
              have := (hb.lt g3 e).2
              omega
          have n4 : g3 ≠ g4 := by
            rcases ha4 with h4 | h4
            · exact fun e => n3 (e ▸ h4)
            · omega
          refine ⟨?_, ?_, ?_, ?_⟩
          · have a1 := (hk.alloc (.cells #[.int .i64 kc] 3)).grown hg3 (fun b e => .inr (ha.lt b e).1)
            exact (a1.alloc (.cells #[.int .i64 uc] 2)).grown hg4 (fun b e => .inr (hb.lt b e).1)
          · rw [e3, e4, List.map_append, List.map_singleton, hkc]
            refine own_loc ho3 (fun b hbb => ?_)
            simp [Value.ownBlock] at hbb
            subst hbb
            rw [hg4.block g3 (by rw [alloc_size]; omega) (fun e => n3 e.symm)]
            exact Below.heap_alloc w2 _ g3 hg3l
          · rw [e3, e4, List.map_append, List.map_singleton, huc]
            exact ho4
          · intro b hbb
            simp [Value.ownBlock] at hbb ⊢
            omega
        have hws := hk.size
        have hpl : p < w1.heap.size := lt_of_heap h.heap
        have hgl : g' < w1.heap.size := (h.ownV.lt g' rfl).2
        have HQ : Hid (∀ w2, (wr.alloc (.cells #[.int .i64 kc] 3)).grownBy w2 u6.ownBlock → w2.cell? ⟨p, 2, none⟩ = some (.slice (some ⟨g', 0, none⟩) ps.length cap') ∧ w2.cell? ⟨g', c, none⟩ = some (.int .i64 uc) ∧ w2.ownsRow w1.heap.size 2 1 u7 (laid i c) (((ps.eraseIdx i).take (laid i c)).map Prod.snd)) :=
          fun w2 hg => ⟨(World.cell?_of_block (hQ w2 hg p hpl)).trans c2, (World.cell?_of_block (hQ w2 hg g' hgl)).trans e2, hV w2 hg⟩
        have HE : Hid (∀ w2 w4 g3 cap3 g4 cap4, (wr.alloc (.cells #[.int .i64 kc] 3)).grownBy w2 u6.ownBlock → w2.ownsRow w1.heap.size 3 1 (.slice (some ⟨g3, 0, none⟩) (laid i c + 1) cap3) (laid i c + 1) (((ps.eraseIdx i).take (laid i c)).map Prod.fst ++ [.int .i64 kc]) → (u6.ownBlock = some g3 ∨ g3 = wr.heap.size + 1) →
            (w2.alloc (.cells #[.int .i64 uc] 2)).grownBy w4 u7.ownBlock → w4.ownsRow w1.heap.size 2 1 (.slice (some ⟨g4, 0, none⟩) (laid i c + 1) cap4) (laid i c + 1) (((ps.eraseIdx i).take (laid i c)).map Prod.snd ++ [.int .i64 uc]) → (u7.ownBlock = some g4 ∨ g4 = w2.heap.size + 1) →
            Kept (fun b => w1.heap.size ≤ b) w1 w4 ∧ w4.ownsRow w1.heap.size 3 1 (.slice (some ⟨g3, 0, none⟩) (laid i c + 1) cap3) (laid i (c + 1)) (((ps.eraseIdx i).take (laid i (c + 1))).map Prod.fst) ∧ w4.ownsRow w1.heap.size 2 1 (.slice (some ⟨g4, 0, none⟩) (laid i c + 1) cap4) (laid i (c + 1)) (((ps.eraseIdx i).take (laid i (c + 1))).map Prod.snd) ∧ (∀ g, (Value.slice (some ⟨g3, 0, none⟩) (laid i c + 1) cap3).ownBlock = some g → (Value.slice (some ⟨g4, 0, none⟩) (laid i c + 1) cap4).ownBlock ≠ some g)) := hE
        have ho := ha.alloc (.cells #[.int .i64 kc] 3)
        clear hE hQ hV hk ha hb hab hkc huc hx h hr e3 e4 HH hpl hgl
        generalize laid i c = L at *
        generalize ((ps.eraseIdx i).take L).map Prod.fst = K1 at *
        generalize ((ps.eraseIdx i).take L).map Prod.snd = V1 at *
        go_wp2_with (first
          | (at_builtin; refine wpList_append_lies _ rfl (.tmp 26) (.tmp 34) 35 rfl w1.heap.size 3 i0 _ 1 8 Try.underlying35 hi0 hz0 hz1 hz2 rfl (by omega) u6 L K1 rfl ho ⟨wr.heap.size, 0, none⟩ 1 1 [.int .i64 kc] rfl rfl (World.news_of_block (cs := #[.int .i64 kc]) (t := 3) (fr := (0, 0)) (heap_alloc_new wr _)) (by simp [Value.oneCell']) (by omega) (by unfold maxLen; omega) (by omega) (by simp; omega) (wr.heap.size + 1) (by simp) ?_; intro g3 cap3 w2 ho3 hg3 ha3 hl3; have q1 := (HQ.out w2 hg3).1; have q2 := (HQ.out w2 hg3).2.1)
          | (at_builtin; refine wpList_append_lies _ rfl (.tmp 36) (.tmp 44) 36 rfl w1.heap.size 2 i2 _ 1 8 Try.underlying36 hi2 hy0 hy1 hy2 rfl (by omega) u7 L V1 rfl ((HQ.out w2 hg3).2.2.alloc (.cells #[.int .i64 uc] 2)) ⟨w2.heap.size, 0, none⟩ 1 1 [.int .i64 uc] rfl rfl (World.news_of_block (cs := #[.int .i64 uc]) (t := 2) (fr := (0, 0)) (heap_alloc_new w2 _)) (by simp [Value.oneCell']) (by omega) (by unfold maxLen; omega) (by omega) (by have := hg3.size; simp at this ⊢; omega) (w2.heap.size + 1) (by simp) ?_; intro g4 cap4 w4 ho4 hg4 ha4 hl4))
        go_roundw
        case rel => exact ⟨c + 1, by go_num, by omega, HE.out w2 w4 g3 cap3 g4 cap4 hg3 ho3 ha3 hg4 ho4 ha4⟩
        case measure => simp [intOf]; omega
    · obtain rfl : c = ps.length := by omega
      have hlen : (ps.eraseIdx i).length = ps.length - 1 := by rw [List.length_eraseIdx, if_pos hlt]
      have e3 : laid i ps.length = (ps.eraseIdx i).length := by rw [hlen]; unfold laid; rw [if_neg (by omega)]
      rw [e3, List.take_length] at ha hb
      have hpl := lt_of_heap hr.heap
      have f1 := hr.f1
      have f2 := hr.f2
      have HE : Hid (RTurned w1 ((wr.setCell ⟨p, 1, none⟩ u6).setCell ⟨p, 2, none⟩ u7) p most (.slice (some ⟨g, 0, none⟩) ps.length cap) (.slice (some ⟨g', 0, none⟩) ps.length cap') (ps.eraseIdx i)) := by
        have hp1 : p < w1.heap.size := lt_of_heap h.heap
        have n1 : u6.ownBlock ≠ some p := fun e => by have := (ha.lt p e).1; omega
        have n2 : u7.ownBlock ≠ some p := fun e => by have := (hb.lt p e).1; omega
        refine ⟨u6, u7, ⟨?_, ?_, ?_, ?_, fun y hy => h.keys y ((List.eraseIdx_sublist _ _).subset hy), fun y hy => h.vals y ((List.eraseIdx_sublist _ _).subset hy), h.apart.erase i, ?_, h.most⟩, ?_, ?_⟩
        · rw [heap_setCell_at (heap_setCell_at hr.heap _)]
          rfl
        · exact ownsRow_setCell_far (ownsRow_setCell_far (own_mono ha (Nat.zero_le _)) n1 _) n1 _
        · exact ownsRow_setCell_far (ownsRow_setCell_far (own_mono hb (Nat.zero_le _)) n2 _) n2 _
        · unfold rfoot
          cases hu : u6.ownBlock <;> cases hv : u7.ownBlock <;> simp_all
          · exact fun e => n2 e.symm
          · exact fun e => n1 e.symm
          · exact ⟨⟨fun e => n1 e.symm, fun e => n2 e.symm⟩, fun e => hab e.symm⟩
        · have := h.fits; rw [hlen]; omega
        · have a1 : Kept (fun b => b ∈ rfoot p (.slice (some ⟨g, 0, none⟩) ps.length cap) (.slice (some ⟨g', 0, none⟩) ps.length cap')) w1 wr := hk.mono (fun b hb' e => absurd e (by omega))
          exact (a1.setCell _ (.inl (by simp [rfoot]))).setCell _ (.inl (by simp [rfoot]))
        · intro b hbb
          simp only [rfoot, List.mem_cons, List.mem_append, Option.mem_toList] at hbb
          rcases hbb with rfl | hbb | hbb
          · exact .inl (by simp [rfoot])
          · exact .inr (ha.lt b hbb).1
          · exact .inr (hb.lt b hbb).1
      obtain ⟨a6, s6, h6⟩ := own_shape (own_mono ha (Nat.zero_le _))
      obtain ⟨a7, s7, h7⟩ := own_shape (own_mono hb (Nat.zero_le _))
      clear hk ha hb hab h hr HH e3 hlen
      subst h6 h7
      go_wp2
      go_ret
      exact ⟨rfl, HE.out⟩
end
set_option maxRecDepth 100000 in
set_option maxHeartbeats 1000000 in
theorem same_any {w : World} {a b : Value} {n : Nat} {xs : List Value} (ha : w.ownsRow 0 3 1 a n xs) (hb : w.ownsRow 0 3 1 b n xs) (hi : ∀ x ∈ xs, ∃ k : Int, x = .int .i64 k) (hn : n ≤ 4096) :
    Calls Try.prog 11 #[a, b] w fun e w' => e = .returned (.bool true) ∧ Kept (fun _ => False) w w' := by
  obtain ⟨a6, s6, rfl⟩ := own_shape ha
  obtain ⟨a7, s7, rfl⟩ := own_shape hb
  have HH : Hid (w.ownsRow 0 3 1 (.slice a6 n s6) n xs ∧ w.ownsRow 0 3 1 (.slice a7 n s7) n xs) := ⟨ha, hb⟩
  clear ha hb
  go_enter Try.func11, Try.ntmps11
  go_wp2_with fail
  go_loopw [5] (fun j wr => ∃ c : Nat, j = .int .i64 c ∧ c ≤ n ∧ Kept (fun _ => False) w wr) (fun j _ => n - (intOf j).toNat)
  case atStart => exact ⟨0, rfl, Nat.zero_le _, Kept.refl _ _⟩
  case round =>
    obtain ⟨c, rfl, hc, hk⟩ := hrel
    by_cases hlt : c < n
    · obtain ⟨ha, hb⟩ := HH.out
      have hl := ha.1
      rcases own_forms ha with ⟨_, h0, _⟩ | ⟨g1, cap1, hv1, _, hg1, _⟩
      · omega
      rcases own_forms hb with ⟨_, h0, _⟩ | ⟨g2, cap2, hv2, _, hg2, _⟩
      · omega
      cases hv1
      cases hv2
      have hx : xs[c]? = some xs[c] := List.getElem?_eq_getElem (by omega)
      obtain ⟨kc, hkc⟩ := hi xs[c] (List.mem_of_getElem? hx)
      rw [hkc] at hx
      have e1 : wr.drew.cell? ⟨g1, c, none⟩ = some (.int .i64 kc) := (World.cell?_of_block (hk.block g1 hg1 (fun f => f))).trans ((ha.cellAt c (by omega)).trans hx)
      have e2 : wr.drew.cell? ⟨g2, c, none⟩ = some (.int .i64 kc) := (World.cell?_of_block (hk.block g2 hg2 (fun f => f))).trans ((hb.cellAt c (by omega)).trans hx)
      have b1 : (0 : Int) ≤ c := Int.natCast_nonneg _
      have b2 : (c : Int) < n := by omega
      clear hkc hx ha hb HH hi hl
      go_wp2_with fail
      go_region
      all_goals
        go_wp2
        go_roundw
        case rel => exact ⟨c + 1, by go_num, by omega, hk.drew⟩
        case measure => simp [intOf]; omega
    · obtain rfl : c = n := by omega
      clear HH hi
      go_wp2
      go_ret
      exact ⟨rfl, hk⟩
end Go.Proofs.Ytoejhbecogmdbaa
