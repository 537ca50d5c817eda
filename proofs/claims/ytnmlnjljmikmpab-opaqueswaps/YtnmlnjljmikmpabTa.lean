/- OpaqueSwaps: writer, and what Check says of neighbours and of beginnings. -/
import Derived.Test.YtnmlnjljmikmpabOy
import Derived.Test.YtnmlnjljmikmpabSa
namespace Go.Proofs.Ytnmlnjljmikmpab
open Go.RowKit Go.Shelf
set_option linter.unusedVariables false
set_option linter.unusedSimpArgs false
attribute [local go_sem ↓] Go.wp_at_zero Go.wp_at_succ

def wrtM (s : Sy) : Bool := s.ms.any Mv.puts && s.ft == 1
theorem put_next {ms : List Mv} {j : Nat} {x : Mv} (h : ms[j]? = some x) (h0 : (ms.take j).any Mv.puts = false) (hx : x.wr = false) : (ms.take (j + 1)).any Mv.puts = false := by
  rw [List.take_add_one, h]
  rw [List.any_append, h0]
  simp [Mv.puts, hx]
theorem put_here {ms : List Mv} {j : Nat} {x : Mv} (h : ms[j]? = some x) (hx : x.wr = true) : ms.any Mv.puts = true := by
  rw [List.any_eq_true]
  exact ⟨x, List.mem_of_getElem? h, by simp [Mv.puts, hx]⟩
theorem wrM_none {ms : List Mv} (h : ms.any Mv.puts = false) : wrM ms = [] := by
  unfold wrM
  rw [List.filter_eq_nil_iff.2 (fun x hx hp => by rw [List.any_eq_false] at h; exact h x hx hp)]
  rfl
theorem leaves_no {s : Sy} (h : wrtM s = false) (m : Mem) : leaves m s = m := by
  unfold leaves leavesL
  unfold wrtM at h
  by_cases hf : s.ft = 1
  · rw [if_pos hf, wrM_none (by simpa [hf] using h)]
    rfl
  · rw [if_neg hf]
    rfl
theorem late_swap {g : Int} {a b : Sy} {r : List Sy} {i : Nat} (hab : ¬ (a.en ≠ 0 ∧ a.en < b.bg)) (h : lateAt g (a :: b :: r) i = none) : lateAt g (b :: a :: r) i = none := by
  simp only [lateAt] at h ⊢
  by_cases c1 : a.en ≠ 0 ∧ a.en < g
  · rw [if_pos c1] at h; cases h
  · rw [if_neg c1] at h
    obtain ⟨ga, hga⟩ : ∃ x, x = (if a.bg > g then a.bg else g) := ⟨_, rfl⟩
    obtain ⟨gb, hgb⟩ : ∃ x, x = (if b.bg > g then b.bg else g) := ⟨_, rfl⟩
    rw [← hga] at h
    rw [← hgb]
    have ha : (ga = a.bg ∧ a.bg > g) ∨ (ga = g ∧ a.bg ≤ g) := by
      by_cases c : a.bg > g
      · rw [if_pos c] at hga; exact .inl ⟨hga, c⟩
      · rw [if_neg c] at hga; exact .inr ⟨hga, by omega⟩
    have hb : (gb = b.bg ∧ b.bg > g) ∨ (gb = g ∧ b.bg ≤ g) := by
      by_cases c : b.bg > g
      · rw [if_pos c] at hgb; exact .inl ⟨hgb, c⟩
      · rw [if_neg c] at hgb; exact .inr ⟨hgb, by omega⟩
    by_cases c2 : b.en ≠ 0 ∧ b.en < ga
    · rw [if_pos c2] at h; cases h
    · rw [if_neg c2] at h
      have e : (if a.bg > gb then a.bg else gb) = (if b.bg > ga then b.bg else ga) := by
        by_cases c : a.bg > gb
        · rw [if_pos c]
          by_cases d : b.bg > ga
          · rw [if_pos d]; omega
          · rw [if_neg d]; omega
        · rw [if_neg c]
          by_cases d : b.bg > ga
          · rw [if_pos d]; omega
          · rw [if_neg d]; omega
      rw [if_neg (fun hh => c2 ⟨hh.1, by omega⟩), if_neg (fun hh => by
        rcases hb with hb | hb
        · exact hab ⟨hh.1, by omega⟩
        · exact c1 ⟨hh.1, by omega⟩), e]
      exact h
theorem read_swap {m : Mem} {a b : Sy} {r : List Sy} {i : Nat} (ha : wrtM a = false) (hb : wrtM b = false) (h : readBad m (a :: b :: r) i = none) : readBad m (b :: a :: r) i = none := by
  simp only [readBad, leaves_no ha, leaves_no hb] at h ⊢
  split at h
  · rename_i h1
    split at h
    · rename_i h2
      rw [if_pos h2, if_pos h1]
      exact h
    · cases h
  · cases h
theorem chk_once {start : List Int} {l : List Sy} {o : List Int} {b : Int} (h : chk start l o = (0, b)) : chk start l o = (0, 0) ∧ ∃ o', o = asI o' := by
  unfold chk at h ⊢
  split at h
  · rename_i he
    split at h
    · simp at h
    · rename_i ht
      split at h
      · simp at h
      · rename_i hr
        refine ⟨?_, o.map Int.toNat, ?_⟩
        · rw [if_pos he]
        · unfold asI
          rw [List.map_map]
          refine (List.map_id o).symm.trans (List.map_congr_left fun x hx => ?_)
          have := he.2.1 x hx
          simp only [id, Function.comp]
          omega
  · simp at h
theorem swap_ok {start : List Int} {l : List Sy} {A B : List Nat} {a b : Nat} (h : chk start l (asI (A ++ a :: b :: B)) = (0, 0)) (ha : wrtM (l.getD a Sy.zero) = false) (hb : wrtM (l.getD b Sy.zero) = false) (hab : ¬ ((l.getD a Sy.zero).en ≠ 0 ∧ (l.getD a Sy.zero).en < (l.getD b Sy.zero).bg)) : chk start l (asI (A ++ b :: a :: B)) = (0, 0) := by
  rw [chk_ok] at h ⊢
  obtain ⟨⟨h1, h2, h3, h4⟩, h5⟩ := h
  have hp : (A ++ b :: a :: B).Perm (A ++ a :: b :: B) := List.Perm.append_left A (List.Perm.swap a b B)
  refine ⟨⟨fun x hx => h1 x (hp.mem_iff.1 hx), hp.symm.nodup h2, ?_, ?_⟩, by rw [← h5]; simp⟩
  · rw [pick_asI] at h3 ⊢
    rw [List.map_append, List.map_cons, List.map_cons, lateAt_append] at h3 ⊢
    split at h3
    · cases h3
    · rename_i hh
      exact late_swap hab h3
  · rw [pick_asI] at h4 ⊢
    rw [List.map_append, List.map_cons, List.map_cons, readBad_append] at h4 ⊢
    split at h4
    · cases h4
    · rename_i hh
      exact read_swap ha hb h4
theorem pick_range (s : List Sy) : pick s (asI (List.range s.length)) = s := by
  rw [pick_asI]
  apply List.ext_getElem?
  intro i
  rw [List.getElem?_map]
  by_cases h : i < s.length
  · rw [List.getElem?_range h, Option.map_some, List.getD_eq_getElem?_getD, List.getElem?_eq_getElem h]
    rfl
  · rw [List.getElem?_eq_none (by simpa using h), List.getElem?_eq_none (by omega)]
    rfl
theorem part_ok {start : List Int} {l : List Sy} {o : List Nat} (h : chk start l (asI o) = (0, 0)) (j : Nat) : chk start ((o.take j).map fun x => l.getD x Sy.zero) (asI (List.range (o.take j).length)) = (0, 0) := by
  rw [chk_ok] at h
  have hb := h.1
  rw [← List.take_append_drop j o] at hb
  have hf := beg_front hb
  rw [chk_ok]
  have e : pick ((o.take j).map fun x => l.getD x Sy.zero) (asI (List.range (o.take j).length)) = (o.take j).map fun x => l.getD x Sy.zero := by
    have := pick_range ((o.take j).map fun x => l.getD x Sy.zero)
    rw [List.length_map] at this
    exact this
  refine ⟨⟨by simp, List.nodup_range, ?_, ?_⟩, by simp⟩
  · rw [e, ← pick_asI]
    exact hf.time
  · rw [e, ← pick_asI]
    exact hf.reads
set_option maxRecDepth 100000 in
set_option maxHeartbeats 4000000 in
theorem writer_any {w : World} (m : Sm) (hm : SIn w m) : Calls Try.prog 6 #[syV m] w fun e w' => e = .returned (.bool (wrtM m.s)) ∧ Kept (fun _ => False) w w' := by
  obtain ⟨hl, hb, hrg⟩ := hm
  obtain ⟨⟨z0, z1, z2, z3, z4, z5, z6, z7, z8, ms⟩, la, lc⟩ := m
  simp only at hl hb hrg
  have a1 := (St.nil w).box #[.int .i64 z0, .int .i64 z1, .int .i64 z2, .int .i64 z3, .int .i64 z4, .int .i64 z5, .int .i64 z6, .int .i64 z7, .int .i64 z8, .slice la ms.length lc] 31
  unfold syV
  simp only
  generalize hw1 : w.alloc (.cells #[.int .i64 z0, .int .i64 z1, .int .i64 z2, .int .i64 z3, .int .i64 z4, .int .i64 z5, .int .i64 z6, .int .i64 z7, .int .i64 z8, .slice la ms.length lc] 31) = w1 at *
  generalize hE : w.heap.size = E at *
  have HL := hid hl
  have hb1 : (ms.length : Int) ≤ 2932031007317 := by omega
  have HA1 := hid a1
  have HKS := hid a1.same
  unfold wrtM
  simp only
  clear a1 hl hb hrg
  go_enter Try.func6, Try.ntmps6
  go_upto_region 2 with (simp only [hw1, hE])
  go_loopw [3] (fun i wr => ∃ (j : Nat), i = .int .i64 j ∧ j ≤ ms.length ∧ (ms.take j).any Mv.puts = false ∧ Kept (fun _ => False) w1 wr) (fun i _ => ms.length - (intOf i).toNat)
  case atStart => exact ⟨0, rfl, Nat.zero_le _, rfl, Kept.refl _ _⟩
  case round =>
    obtain ⟨j, rfl, hj, hany, hk⟩ := hrel
    have c9 := (HA1.out.calm hk).cell 0 rfl 9
    have c4 := (HA1.out.calm hk).cell 0 rfl 4
    have HK := hid hk
    have HAN := hid hany
    clear hany
    by_cases hlt : j < ms.length
    · have hlt' : (j : Int) < (ms.length : Int) := by omega
      have hj0 : (0 : Int) ≤ (j : Int) := by omega
      obtain ⟨g, off, rfl⟩ := HL.out.addr (by omega)
      obtain ⟨⟨xst, xwr, xce, xx, xow, xga⟩, hx⟩ : ∃ x, ms[j]? = some x := ⟨_, List.getElem?_eq_getElem hlt⟩
      have HX := hid hx
      have q1 := (HL.out.kept (HKS.out.trans hk (fun _ _ f => f))).at (k := 6) (fun _ => rfl) hx 1 _ rfl
      have HJ : Hid (j + 1 ≤ ms.length ∧ ms.length - (j + 1) < ms.length - j) := hid ⟨by omega, by omega⟩
      clear hx hk hj hlt HL
      cases xwr
      · simp only at q1
        go_wp2
        go_roundw
        case rel => exact ⟨j + 1, by simp, HJ.out.1, put_next HX.out HAN.out rfl, HK.out⟩
        case measure => have := HJ.out.2; simp [intOf]; omega
      · simp only at q1
        have e := put_here HX.out rfl
        have HE := hid e
        clear e
        go_wp2
        go_ret
        refine ⟨?_, HKS.out.trans HK.out (fun _ _ f => f)⟩
        rw [HE.out]
        rfl
    · have hlt' : ¬ (j : Int) < (ms.length : Int) := by omega
      have e : ms.any Mv.puts = false := by
        have := HAN.out
        rw [List.take_of_length_le (by omega)] at this
        exact this
      have HE := hid e
      clear e hk HL hj hlt
      go_wp2
      go_ret
      refine ⟨?_, HKS.out.trans HK.out (fun _ _ f => f)⟩
      rw [HE.out]
      rfl
end Go.Proofs.Ytnmlnjljmikmpab
