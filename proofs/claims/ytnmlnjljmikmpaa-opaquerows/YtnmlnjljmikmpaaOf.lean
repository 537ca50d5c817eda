/- Package opaque: hasEachOnce, endsAhead. -/
import Derived.Test.YtnmlnjljmikmpaaOb
import Derived.Test.YtnmlnjljmikmpaaOn
import Derived.Test.YtnmlnjljmikmpaaOe
import Derived.BigQuiet
namespace Go.Proofs.Ytnmlnjljmikmpaa
open Go.RowKit Go.Shelf
set_option linter.unusedVariables false
set_option linter.unusedSimpArgs false
attribute [local go_sem ↓] Go.wp_at_zero Go.wp_at_succ

def bC (x : Bool) : List Value := [.bool x]
theorem Try.infoB : (Try.prog.info? 4).map (fun i => (i.zero, i.size, i.bytes)) = some (some (.bool false), 1, 1) := by kernel_rfl
theorem Try.rowB : RowT Try.prog 4 92 1 1 bC := row_of (fun _ => rfl) (fun a u hu => by simp only [bC, List.mem_cons, List.not_mem_nil, or_false] at hu; rcases hu with rfl <;> rfl) Try.underlying92 (by omega) (by omega) Try.infoB rfl
def beenL (o : List Int) (many j : Nat) : List Bool := (List.range many).map fun i : Nat => decide ((i : Int) ∈ o.take j)
theorem been_len (o : List Int) (many j : Nat) : (beenL o many j).length = many := by simp [beenL]
theorem been_at {o : List Int} {many j x : Nat} (hx : x < many) : (beenL o many j)[x]? = some (decide ((x : Int) ∈ o.take j)) := by simp [beenL, hx]
theorem been_zero (o : List Int) (many : Nat) : beenL o many 0 = List.replicate many false := by
  unfold beenL
  rw [List.eq_replicate_iff]
  simp
theorem been_next {o : List Int} {many j x : Nat} (hx : x < many) (h : o[j]? = some (x : Int)) : (beenL o many j).set x true = beenL o many (j + 1) := by
  have e : o.take (j + 1) = o.take j ++ [(x : Int)] := by rw [List.take_add_one, h]; rfl
  apply List.ext_getElem?
  intro i
  rw [List.getElem?_set]
  unfold beenL
  rw [e]
  by_cases hi : x = i
  · subst hi
    simp [hx]
  · rw [if_neg hi]
    by_cases hm : i < many
    · have : ¬ (i : Int) = (x : Int) := by omega
      simp [hm, this]
    · simp [hm]
/-- So far each place has come once at most. -/
def Once (o : List Int) (many j : Nat) : Prop := (∀ x ∈ o.take j, 0 ≤ x ∧ x < (many : Int)) ∧ (o.take j).Nodup
theorem once_next {o : List Int} {many j : Nat} {x : Int} (h : Once o many j) (hx : o[j]? = some x) (h0 : 0 ≤ x) (h1 : x < (many : Int)) (h2 : x ∉ o.take j) : Once o many (j + 1) := by
  have e : o.take (j + 1) = o.take j ++ [x] := by rw [List.take_add_one, hx]; rfl
  unfold Once
  rw [e]
  refine ⟨fun y hy => ?_, ?_⟩
  · rcases List.mem_append.1 hy with hy | hy
    · exact h.1 y hy
    · rw [List.mem_singleton.1 hy]; exact ⟨h0, h1⟩
  · rw [List.nodup_append]
    exact ⟨h.2, by simp, fun a ha b hb => by rw [List.mem_singleton.1 hb]; rintro rfl; exact h2 ha⟩
theorem once_no {o : List Int} {many j : Nat} {x : Int} (hx : o[j]? = some x) (h : x < 0 ∨ (many : Int) ≤ x ∨ x ∈ o.take j) : ¬ eachOnce o many := by
  rintro ⟨_, h1, h2⟩
  have hm := List.mem_of_getElem? hx
  have := h1 x hm
  rcases h with h | h | h
  · omega
  · omega
  · have e : o.take (j + 1) = o.take j ++ [x] := by rw [List.take_add_one, hx]; rfl
    have h3 : (o.take (j + 1)).Nodup := h2.sublist (List.take_sublist _ _)
    rw [e, List.nodup_append] at h3
    exact h3.2.2 x h x (by simp) rfl
theorem once_all {o : List Int} {many : Nat} (h : Once o many o.length) (hl : o.length = many) : eachOnce o many := by
  have e : o.take o.length = o := List.take_length
  unfold Once at h
  rw [e] at h
  exact ⟨hl, h.1, h.2⟩
set_option maxRecDepth 100000 in
set_option maxHeartbeats 4000000 in
theorem eachOnce_any {w : World} {la : Option Addr} {n lc : Nat} {o : List Int} (hl : RIn iC w la n o) (many : Nat) (hm : many ≤ 1466015503701) (hn : (n : Int) ≤ 9223372036854775807) : Calls Try.prog 27 #[.slice la n lc, .int .i64 many] w fun e w' => e = .returned (.bool (decide (eachOnce o many))) ∧ Kept (fun _ => False) w w' := by
  by_cases hnm : n = many
  · subst hnm
    have HLN := hid hl.1
    have hm1 := r_make Try.rowB false (by intro i z0 h1 h2; rw [zero_of Try.infoB i z0 h1 h2]; rfl) n n rfl (by omega) w
    have s1 := r_new (f := bC) (k := 1) (fun _ => rfl) 4 (St.nil w) (List.replicate n false) (by simp only [List.length_replicate]; unfold maxLen; omega)
    simp only [lstR, List.length_replicate] at s1
    rw [← been_zero o n] at s1
    generalize hw1 : w.alloc (.cells (fl bC (List.replicate n false)).toArray 4) = w1 at *
    rw [been_zero o n, hw1] at s1
    generalize w.heap.size = G at *
    have tn : ((n : Int) != (n : Int)) = false := by simp
    have HS1 := hid s1
    have HL := hid hl
    have HM := hid hm
    clear s1 hl hm hw1
    go_enter Try.func27, Try.ntmps27
    go_upto_region 5 with (first | simp only [hm1])
    clear hm1
    go_loopw [16] (fun i wr => ∃ j : Nat, i = .int .i64 j ∧ j ≤ n ∧ Once o n j ∧ St w [ownI 4 1 (.slice (some ⟨G, 0, none⟩) n n) n (fl bC (beenL o n j))] wr) (fun i _ => n - (intOf i).toNat)
    case atStart => exact ⟨0, rfl, Nat.zero_le _, ⟨by simp, by simp⟩, by rw [been_zero]; exact HS1.out⟩
    case round =>
      clear HS1
      obtain ⟨j, rfl, hj, hon, hs⟩ := hrel
      by_cases hlt : j < n
      · have hlt' : (j : Int) < (n : Int) := by omega
        have hj0 : (0 : Int) ≤ (j : Int) := by omega
        obtain ⟨g, off, rfl⟩ := HL.out.addr (by omega)
        obtain ⟨x, hx⟩ : ∃ x, o[j]? = some x := ⟨_, List.getElem?_eq_getElem (by have := HLN.out; omega)⟩
        have HX := hid hx
        have q0 := (HL.out.kept hs.same).at (k := 1) (fun _ => rfl) hx 0 _ rfl
        rw [Nat.mul_one, Nat.add_zero] at q0
        have HJ : Hid (j + 1 ≤ n ∧ n - (j + 1) < n - j) := hid ⟨by omega, by omega⟩
        have HO := hid hon
        have HS := hid hs
        clear hx hj hlt hon
        by_cases h0 : x < 0
        · have t0 : decide (x < 0) = true := by simpa using h0
          have HR : Hid (decide (eachOnce o n) = false) := hid (by simpa using once_no HX.out (.inl h0))
          clear h0 hs
          go_wp2
          go_ret
          exact ⟨by rw [HR.out]; rfl, HS.out.same⟩
        · have t0 : decide (x < 0) = false := by simpa using h0
          by_cases h1 : (n : Int) ≤ x
          · have t1 : decide ((n : Int) ≤ x) = true := by simpa using h1
            have HR : Hid (decide (eachOnce o n) = false) := hid (by simpa using once_no HX.out (.inr (.inl h1)))
            clear h0 h1 hs
            go_wp2
            go_ret
            exact ⟨by rw [HR.out]; rfl, HS.out.same⟩
          · have t1 : decide ((n : Int) ≤ x) = false := by simpa using h1
            obtain ⟨y, rfl⟩ : ∃ y : Nat, x = (y : Int) := ⟨x.toNat, by omega⟩
            have hy : y < n := by omega
            have hyi : (y : Int) < (n : Int) := by omega
            have hy0 : (0 : Int) ≤ (y : Int) := by omega
            have hb := been_at (o := o) (j := j) hy
            have e2 := fl_at (f := bC) (k := 1) (fun _ => rfl) _ y 0 _ (by omega) hb
            rw [Nat.mul_one, Nat.add_zero] at e2
            have b0 := (hs.ownCell 0 rfl y (by omega)).trans e2
            have f0 := hs.ownFrozen 0 rfl y
            by_cases h2 : (y : Int) ∈ o.take j
            · have HR : Hid (decide (eachOnce o n) = false) := hid (by simpa using once_no HX.out (.inr (.inr h2)))
              simp only [bC, h2, decide_true, List.getElem?_cons_zero] at b0
              clear h0 h1 h2 hs hb e2
              go_wp2
              go_ret
              exact ⟨by rw [HR.out]; rfl, HS.out.same⟩
            · have s2 := r_set (f := bC) (k := 1) (fun _ => rfl) hs 0 rfl (been_len o n j).symm hb 0 (by omega) (.bool true) (x' := true) rfl
              rw [been_next hy HX.out, Nat.mul_one, Nat.add_zero] at s2
              have HS2 := hid s2
              have HON := hid (once_next HO.out HX.out (by omega) (by omega) h2)
              simp only [bC, h2, decide_false, List.getElem?_cons_zero] at b0
              clear h0 h1 h2 hs hb e2 s2
              go_wp2
              go_roundw
              case rel => exact ⟨j + 1, by simp, HJ.out.1, HON.out, HS2.out⟩
              case measure => have := HJ.out.2; simp [intOf]; omega
      · have hlt' : ¬ (j : Int) < (n : Int) := by omega
        have HR : Hid (decide (eachOnce o n) = true) := hid (by
          have e : j = o.length := by have := HLN.out; omega
          have := HLN.out
          rw [e] at hon
          simpa using once_all hon (by omega))
        have HS := hid hs
        clear hs hon
        go_wp2
        go_ret
        exact ⟨by rw [HR.out]; rfl, HS.out.same⟩
  · have tn : ((n : Int) != (many : Int)) = true := by simp; omega
    have HR : Hid (decide (eachOnce o many) = false) := hid (by
      have := hl.1
      simp only [decide_eq_false_iff_not]
      rintro ⟨h, _⟩
      omega)
    clear hnm hl
    go_enter Try.func27, Try.ntmps27
    go_wp2
    go_ret
    exact ⟨by rw [HR.out]; rfl, Kept.refl _ _⟩
set_option maxRecDepth 100000 in
set_option maxHeartbeats 4000000 in
theorem ends_any (m o : Sm) (w : World) : Calls Try.prog 37 #[syV m, syV o] w fun e w' => e = .returned (.bool (ends m.s o.s)) ∧ Kept (fun _ => False) w w' := by
  obtain ⟨⟨z0, z1, z2, z3, z4, z5, z6, z7, z8, ms⟩, la, lc⟩ := m
  obtain ⟨⟨y0, y1, y2, y3, y4, y5, y6, y7, y8, ns⟩, oa, oc⟩ := o
  unfold syV ends
  simp only
  have a1 := ((St.nil w).box #[.int .i64 z0, .int .i64 z1, .int .i64 z2, .int .i64 z3, .int .i64 z4, .int .i64 z5, .int .i64 z6, .int .i64 z7, .int .i64 z8, .slice la ms.length lc] 44).box #[.int .i64 y0, .int .i64 y1, .int .i64 y2, .int .i64 y3, .int .i64 y4, .int .i64 y5, .int .i64 y6, .int .i64 y7, .int .i64 y8, .slice oa ns.length oc] 44
  rw [alloc_size] at a1
  generalize hw1 : (w.alloc (.cells #[.int .i64 z0, .int .i64 z1, .int .i64 z2, .int .i64 z3, .int .i64 z4, .int .i64 z5, .int .i64 z6, .int .i64 z7, .int .i64 z8, .slice la ms.length lc] 44)).alloc (.cells #[.int .i64 y0, .int .i64 y1, .int .i64 y2, .int .i64 y3, .int .i64 y4, .int .i64 y5, .int .i64 y6, .int .i64 y7, .int .i64 y8, .slice oa ns.length oc] 44) = w1 at *
  generalize hE : w.heap.size = E at *
  have c3 := a1.cell 1 rfl 3
  have d2 := a1.cell 0 rfl 2
  have HK := hid a1.same
  clear a1
  by_cases h : z3 = 0
  · subst h
    have t : ((0 : Int) != 0) = false := rfl
    go_enter Try.func37, Try.ntmps37
    go_wp2_with (simp only [hw1, hE])
    go_ret
    exact ⟨by simp, HK.out⟩
  · have t : (z3 != 0) = true := by simpa using h
    clear h
    go_enter Try.func37, Try.ntmps37
    go_wp2_with (simp only [hw1, hE])
    go_ret
    exact ⟨by simp [t], HK.out⟩
end Go.Proofs.Ytnmlnjljmikmpaa
