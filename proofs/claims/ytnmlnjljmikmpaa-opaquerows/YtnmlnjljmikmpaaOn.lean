/- Whole orders and what Check says of them; the next greater order. -/
import Derived.Test.YtnmlnjljmikmpaaOm
namespace Go.Proofs.Ytnmlnjljmikmpaa
set_option linter.unusedVariables false
set_option linter.unusedSimpArgs false

def asI (o : List Nat) : List Int := o.map fun (x : Nat) => (x : Int)
theorem pick_asI (l : List Sy) (o : List Nat) : pick l (asI o) = o.map fun x => l.getD x Sy.zero := by simp [pick, asI, Function.comp_def]
theorem asI_inj {a b : List Nat} (h : asI a = asI b) : a = b := by
  have := congrArg (List.map Int.toNat) h
  simpa [asI, Function.comp_def] using this
/-- What stands of a beginning: so far Check has nothing against it. -/
structure Beg (start : List Int) (l : List Sy) (pre : List Nat) : Prop where
  lt : ∀ x ∈ pre, x < l.length
  nodup : pre.Nodup
  time : lateAt minI (pick l (asI pre)) 0 = none
  reads : readBad (startM start) (pick l (asI pre)) 0 = none
theorem Beg.nil (start : List Int) (l : List Sy) : Beg start l [] := ⟨by simp, List.nodup_nil, rfl, rfl⟩
theorem getD_mem {l : List Sy} {P : Sy → Prop} (h : ∀ s ∈ l, P s) {x : Nat} (hx : x < l.length) : P (l.getD x Sy.zero) := by
  rw [List.getD_eq_getElem?_getD, List.getElem?_eq_getElem hx]
  exact h _ (List.getElem_mem hx)
theorem beg_next {start : List Int} {l : List Sy} {pre : List Nat} {p : Nat} (hr : ∀ s ∈ l, minI ≤ s.en) (hp : p < l.length) (h : Beg start l pre) :
    mayNext l (memB (startM start) (pick l (asI pre))) pre p = true ↔ Beg start l (pre ++ [p]) := by
  have e : pick l (asI (pre ++ [p])) = pick l (asI pre) ++ [l.getD p Sy.zero] := by simp [pick_asI]
  have e1 := lateAt_append (pick l (asI pre)) [l.getD p Sy.zero] minI 0
  have e2 := readBad_append (pick l (asI pre)) [l.getD p Sy.zero] (startM start) 0
  rw [h.time] at e1
  rw [h.reads] at e2
  simp only [lateAt, readBad] at e1 e2
  have hl := late_iff (pick l (asI pre)) (l.getD p Sy.zero) (getD_mem (P := fun s => minI ≤ s.en) hr hp)
  have ha : (pre.any fun a => a == p || ends (l.getD p Sy.zero) (l.getD a Sy.zero)) = false ↔ p ∉ pre ∧ ¬ (pick l (asI pre)).any (ends (l.getD p Sy.zero)) = true := by
    rw [pick_asI, List.any_eq_false, List.any_map, List.any_eq_true]
    constructor
    · intro hh
      refine ⟨fun hm => hh p hm (by simp), ?_⟩
      rintro ⟨x, hx, hx2⟩
      exact hh x hx (by simp only [Function.comp] at hx2; rw [Bool.or_eq_true]; exact .inr hx2)
    · rintro ⟨h1, h2⟩ x hx hx2
      simp only [Bool.or_eq_true, beq_iff_eq] at hx2
      rcases hx2 with rfl | hx2
      · exact h1 hx
      · exact h2 ⟨x, hx, by simpa [Function.comp] using hx2⟩
  unfold mayNext
  rw [Bool.and_eq_true, Bool.not_eq_true', ha]
  constructor
  · rintro ⟨⟨h1, h2⟩, h3⟩
    refine ⟨fun x hx => ?_, ?_, ?_, ?_⟩
    · rcases List.mem_append.1 hx with hx | hx
      · exact h.lt x hx
      · rw [List.mem_singleton.1 hx]; exact hp
    · rw [List.nodup_append]
      exact ⟨h.nodup, by simp, fun a ha' b hb => by rw [List.mem_singleton.1 hb]; rintro rfl; exact h1 ha'⟩
    · rw [e, e1, if_neg (fun hh => h2 (hl.1 hh))]
    · rw [e, e2, if_pos h3]
  · intro hb
    refine ⟨⟨?_, fun hh => ?_⟩, ?_⟩
    · intro hm
      have := hb.nodup
      rw [List.nodup_append] at this
      exact this.2.2 p hm p (by simp) rfl
    · have := hb.time
      rw [e, e1, if_pos (hl.2 hh)] at this
      cases this
    · have := hb.reads
      rw [e, e2] at this
      split at this
      · assumption
      · cases this
theorem beg_front {start : List Int} {l : List Sy} {a b : List Nat} (h : Beg start l (a ++ b)) : Beg start l a := by
  have e : pick l (asI (a ++ b)) = pick l (asI a) ++ pick l (asI b) := by simp [pick_asI]
  have e1 := lateAt_append (pick l (asI a)) (pick l (asI b)) minI 0
  have e2 := readBad_append (pick l (asI a)) (pick l (asI b)) (startM start) 0
  rw [← e, h.time] at e1
  rw [← e, h.reads] at e2
  refine ⟨fun x hx => h.lt x (by simp [hx]), (List.nodup_append.1 h.nodup).1, ?_, ?_⟩
  · cases hc : lateAt minI (pick l (asI a)) 0 with
    | none => rfl
    | some k => rw [hc] at e1; cases e1
  · cases hc : readBad (startM start) (pick l (asI a)) 0 with
    | none => rfl
    | some k => rw [hc] at e2; cases e2
theorem good_beg {start : List Int} {l : List Sy} (hr : ∀ s ∈ l, minI ≤ s.en) : ∀ (ext pre : List Nat), Beg start l pre → (good l (memB (startM start) (pick l (asI pre))) pre ext ↔ Beg start l (pre ++ ext) ∧ (pre ++ ext).length = l.length)
  | [], pre, h => by simp only [good, List.append_nil]; exact ⟨fun e => ⟨h, e⟩, fun e => e.2⟩
  | p :: ext, pre, h => by
    have em : leaves (memB (startM start) (pick l (asI pre))) (l.getD p Sy.zero) = memB (startM start) (pick l (asI (pre ++ [p]))) := by
      rw [show pick l (asI (pre ++ [p])) = pick l (asI pre) ++ [l.getD p Sy.zero] by simp [pick_asI], memB_append]
      rfl
    have ea : pre ++ p :: ext = (pre ++ [p]) ++ ext := by simp
    simp only [good]
    rw [em, ea]
    constructor
    · rintro ⟨h1, h2, h3⟩
      exact (good_beg hr ext (pre ++ [p]) ((beg_next hr h1 h).1 h2)).1 h3
    · rintro ⟨h1, h2⟩
      have hb := beg_front h1
      have hp : p < l.length := hb.lt p (by simp)
      exact ⟨hp, (beg_next hr hp h).2 hb, (good_beg hr ext (pre ++ [p]) hb).2 ⟨h1, h2⟩⟩
theorem chk_ok {start : List Int} {l : List Sy} {o : List Nat} : chk start l (asI o) = (0, 0) ↔ Beg start l o ∧ o.length = l.length := by
  unfold chk
  constructor
  · intro h
    split at h
    · rename_i he
      obtain ⟨h1, h2, h3⟩ := he
      split at h
      · simp at h
      · rename_i ht
        split at h
        · simp at h
        · rename_i hd
          refine ⟨⟨fun x hx => ?_, ?_, ht, hd⟩, by simpa [asI] using h1⟩
          · have := h2 x (by simp [asI]; exact ⟨x, hx, rfl⟩)
            omega
          · rw [asI, List.nodup_iff_pairwise_ne, List.pairwise_map] at h3
            rw [List.nodup_iff_pairwise_ne]
            exact h3.imp (fun hne e => hne (by rw [e]))
    · simp at h
  · rintro ⟨h, hl⟩
    rw [if_pos, h.time, h.reads]
    refine ⟨by simpa [asI] using hl, fun x hx => ?_, ?_⟩
    · simp only [asI, List.mem_map] at hx
      obtain ⟨y, hy, rfl⟩ := hx
      have := h.lt y hy
      omega
    · rw [asI, List.nodup_iff_pairwise_ne, List.pairwise_map]
      have := h.nodup
      rw [List.nodup_iff_pairwise_ne] at this
      exact this.imp (fun hne e => hne (by omega))
/-- What the search finds. -/
def found (start : List Int) (l : List Sy) : Option (List Nat) := dfs l l.length (startM start) []
theorem found_spec {start : List Int} {l : List Sy} (hr : ∀ s ∈ l, minI ≤ s.en) :
    (match found start l with
     | some r => chk start l (asI r) = (0, 0) ∧ ∀ o, chk start l (asI o) = (0, 0) → ¬ lx o r
     | none => ∀ o, chk start l (asI o) ≠ (0, 0)) := by
  have h := dfs_spec l l.length (startM start) [] (by simp)
  have hg := fun ext => good_beg (start := start) hr ext [] (Beg.nil start l)
  simp only [List.nil_append] at hg h
  have e0 : memB (startM start) (pick l (asI [])) = startM start := rfl
  simp only [e0] at hg
  unfold found
  cases hc : dfs l l.length (startM start) [] with
  | none =>
    rw [hc] at h
    intro o ho
    exact h o ((hg o).2 (chk_ok.1 ho))
  | some r =>
    rw [hc] at h
    obtain ⟨ext, rfl, h1, h2⟩ := h
    exact ⟨chk_ok.2 ((hg _).1 h1), fun o ho => h2 o ((hg o).2 (chk_ok.1 ho))⟩

/-! The next greater order -/
/-- A falling list is the greatest of all that have the same members, a rising one the least. -/
theorem falls_max : ∀ {S T : List Nat}, S.Pairwise (fun a b => b < a) → T.Perm S → ¬ lx S T
  | [], T, _, hp => fun h => by cases T <;> exact h
  | x :: S, [], _, hp => fun h => h
  | x :: S, y :: T, hs, hp => by
    rintro (h | ⟨rfl, h⟩)
    · have hy : y ∈ x :: S := hp.mem_iff.1 (by simp)
      rcases List.mem_cons.1 hy with rfl | hy
      · omega
      · have := (List.pairwise_cons.1 hs).1 y hy
        omega
    · exact falls_max (List.pairwise_cons.1 hs).2 (List.Perm.cons_inv hp) h
theorem rises_min : ∀ {S T : List Nat}, S.Pairwise (fun a b => a < b) → T.Perm S → ¬ lx T S
  | [], T, _, hp => fun h => by cases T <;> exact h
  | x :: S, [], _, hp => fun h => h
  | x :: S, y :: T, hs, hp => by
    rintro (h | ⟨rfl, h⟩)
    · have hy : y ∈ x :: S := hp.mem_iff.1 (by simp)
      rcases List.mem_cons.1 hy with rfl | hy
      · omega
      · have := (List.pairwise_cons.1 hs).1 y hy
        omega
    · exact rises_min (List.pairwise_cons.1 hs).2 (List.Perm.cons_inv hp) h
/-- What next makes of A, x, S1, y, S2. -/
theorem next_none_between {A S1 S2 : List Nat} {x y : Nat} (hf : (S1 ++ y :: S2).Pairwise (fun a b => b < a)) (h1 : x < y) (h2 : ∀ z ∈ S2, z ≤ x) (hx : x ∉ S1 ++ y :: S2) :
    (A ++ y :: (S1 ++ x :: S2).reverse).Perm (A ++ x :: (S1 ++ y :: S2)) ∧ lx (A ++ x :: (S1 ++ y :: S2)) (A ++ y :: (S1 ++ x :: S2).reverse) ∧
    ∀ r, r.Perm (A ++ x :: (S1 ++ y :: S2)) → lx (A ++ x :: (S1 ++ y :: S2)) r → ¬ lx r (A ++ y :: (S1 ++ x :: S2).reverse) := by
  have hfall : (S1 ++ x :: S2).Pairwise (fun a b => b < a) := by
    rw [List.pairwise_append, List.pairwise_cons] at hf ⊢
    obtain ⟨a, ⟨b, c⟩, d⟩ := hf
    refine ⟨a, ⟨fun z hz => ?_, c⟩, fun z hz u hu => ?_⟩
    · have := h2 z hz
      have : z ≠ x := by rintro rfl; exact hx (by simp [hz])
      omega
    · rcases List.mem_cons.1 hu with rfl | hu
      · have := d z hz y (by simp)
        omega
      · exact d z hz u (by simp [hu])
  have hrise : (S1 ++ x :: S2).reverse.Pairwise (fun a b => a < b) := by rw [List.pairwise_reverse]; exact hfall
  have hperm : (y :: (S1 ++ x :: S2).reverse).Perm (x :: (S1 ++ y :: S2)) := by
    refine (List.Perm.cons y (List.reverse_perm _)).trans ?_
    have e1 : (S1 ++ x :: S2).Perm (x :: (S1 ++ S2)) := List.perm_middle
    have e2 : (S1 ++ y :: S2).Perm (y :: (S1 ++ S2)) := List.perm_middle
    exact ((e1.cons y).trans (List.Perm.swap x y _)).trans ((e2.cons x).symm)
  refine ⟨hperm.append_left A, (lx_append A _ _).2 (.inl h1), ?_⟩
  intro r hr hgt hlt
  -- r begins with A
  have key : ∀ (A r : List Nat), lx (A ++ x :: (S1 ++ y :: S2)) r → lx r (A ++ y :: (S1 ++ x :: S2).reverse) → ∃ t, r = A ++ t := by
    intro A
    induction A with
    | nil => exact fun r _ _ => ⟨r, rfl⟩
    | cons a A ih =>
      rintro (_ | ⟨b, r⟩) g1 g2
      · exact g1.elim
      · rcases g1 with g1 | ⟨rfl, g1⟩ <;> rcases g2 with g2 | ⟨g2e, g2⟩
        · omega
        · omega
        · omega
        · obtain ⟨t, rfl⟩ := ih r g1 g2
          exact ⟨t, rfl⟩
  obtain ⟨t, rfl⟩ := key A r hgt hlt
  rw [lx_append] at hgt hlt
  have hp : t.Perm (x :: (S1 ++ y :: S2)) := (List.perm_append_left_iff A).1 hr
  rcases t with _ | ⟨z, T⟩
  · exact hgt
  · rcases hgt with g1 | ⟨rfl, g1⟩
    · rcases hlt with g2 | ⟨rfl, g2⟩
      · have hz : z ∈ x :: (S1 ++ y :: S2) := hp.mem_iff.1 (by simp)
        rcases List.mem_cons.1 hz with rfl | hz
        · omega
        · rcases List.mem_append.1 hz with hz | hz
          · rw [List.pairwise_append] at hf
            have := hf.2.2 z hz y (by simp)
            omega
          · rcases List.mem_cons.1 hz with rfl | hz
            · omega
            · have := h2 z hz
              omega
      · have hT : T.Perm (S1 ++ x :: S2).reverse := List.Perm.cons_inv (hp.trans hperm.symm)
        exact rises_min hrise hT g2
    · exact falls_max hf (List.Perm.cons_inv hp) g1
end Go.Proofs.Ytnmlnjljmikmpaa
