/- Two lists beside both pairs: what the end of SlotsPlays asks. -/
import Derived.Test.YthaajlelaoimaaaPlaysRelW
namespace Go.Proofs.Ythaajlelaoimaaa
open Go.RowKit
set_option linter.unusedVariables false
set_option linter.unusedSimpArgs false

theorem own_frozen {w : World} {b e z g n cap : Nat} {xs : List Value} (h : w.ownsRow b e z (.slice (some ⟨g, 0, none⟩) n cap) n xs) (j : Nat) : w.frozen? ⟨g, j, none⟩ = false := by
  rcases h.2 with ⟨hv, _⟩ | ⟨g', cap', cur, hv, hb, hg, _⟩
  · cases hv
  · simp only [Value.slice.injEq, Option.some.injEq, Addr.mk.injEq, true_and, and_true] at hv
    obtain ⟨rfl, rfl⟩ := hv
    exact frozen_of_heap hg
/-- A cell of an own list among other things turned. -/
theorem St.ownSet {o w : World} {its : List It} (h : St o its w) (i : Nat) {e : TypeId} {z g n cap : Nat} {xs : List Value} (hi : its[i]? = some (ownI e z (.slice (some ⟨g, 0, none⟩) n cap) n xs)) (j : Nat) (hj : j < n * z) (x : Value) : St o (its.set i (ownI e z (.slice (some ⟨g, 0, none⟩) n cap) n (xs.set j x))) (w.setCell ⟨g, j, none⟩ x) :=
  h.set i hi ((Kept.refl _ w).setCell x (.inl (by simp [ownI, Value.ownBlock]))) (own_set (show w.ownsRow 0 e z (.slice (some ⟨g, 0, none⟩) n cap) n xs from h.get i hi) j hj x) (own_nodup (.slice (some ⟨g, 0, none⟩) n cap)) (fun b hb => .inl hb)
/-- An own list grown: what lay beside it stays. -/
theorem St.ownGrow {o w w' : World} {its : List It} (h : St o its w) (i : Nat) {e : TypeId} {z n n' : Nat} {v v' : Value} {xs xs' : List Value} (hi : its[i]? = some (ownI e z v n xs)) (p : w'.ownsRow 0 e z v' n' xs') (k : Kept (fun b => v.ownBlock = some b) w w') (hf : v'.ownBlock = v.ownBlock ∨ ∃ g, v'.ownBlock = some g ∧ w.heap.size ≤ g) : St o (its.set i (ownI e z v' n' xs')) w' := by
  refine h.set i hi (k.mono (fun b _ hb => by simp [ownI, hb])) p (own_nodup v') (fun b hb => ?_)
  simp only [ownI] at hb ⊢
  rcases hf with hf | ⟨g, hg, hlt⟩
  · rw [hf] at hb; exact .inl hb
  · rw [hg] at hb
    right
    simp at hb
    omega
section
variable {w W : World} {A B : Bl} {m n na nb k : Nat} {s : Mt} {v u : Value} {ha hb : List Hd} {wa wb : List Int}
/-- Two lists of the caller's beside both pairs: the first one tells the first table's slots, the other one is told anything. -/
structure FRel (w : World) (A B : Bl) (m n na nb k : Nat) (s : Mt) (v u : Value) (ha : List Hd) (wa : List Int) (hb : List Hd) (wb : List Int) (gk ck : Nat) (vl : Value) (nl : Nat) (xs : List Value) (W : World) : Prop where
  rel : PRel w A B m n na nb k s v u ha wa hb wb W
  st : St w (ownI 53 8 (.slice (some ⟨gk, 0, none⟩) na ck) na (slCells (slots ha wa)) :: ownI 53 8 vl nl xs :: pits A B m n s v u ha wa hb wb) W
variable {gk ck nl : Nat} {vl : Value} {xs : List Value}
theorem FRel.calm {W' : World} (h : FRel w A B m n na nb k s v u ha wa hb wb gk ck vl nl xs W) (kk : Kept (fun _ => False) W W') : FRel w A B m n na nb k s v u ha wa hb wb gk ck vl nl xs W' := ⟨h.rel.calm kk, h.st.calm kk⟩
theorem FRel.drewN (h : FRel w A B m n na nb k s v u ha wa hb wb gk ck vl nl xs W) (q : Nat) : FRel w A B m n na nb k s v u ha wa hb wb gk ck vl nl xs (W.drewN q) := h.calm ⟨rfl, rfl, rfl, Nat.le_refl _, fun _ _ _ => rfl⟩
theorem FRel.ownK (h : FRel w A B m n na nb k s v u ha wa hb wb gk ck vl nl xs W) : W.ownsRow 0 53 8 (.slice (some ⟨gk, 0, none⟩) na ck) na (slCells (slots ha wa)) := h.st.get 0 rfl
theorem FRel.ownL (h : FRel w A B m n na nb k s v u ha wa hb wb gk ck vl nl xs W) : W.ownsRow 0 53 8 vl nl xs := h.st.get 1 rfl
theorem FRel.of (a : PRel w A B m n na nb k s v u ha wa hb wb W) {W' : World} (hS : St w (ownI 53 8 (.slice (some ⟨gk, 0, none⟩) na ck) na (slCells (slots ha wa)) :: ownI 53 8 vl nl xs :: pits A B m n s v u ha wa hb wb) W') : FRel w A B m n na nb k s v u ha wa hb wb gk ck vl nl xs W' :=
  ⟨⟨a.wi, a.oa, a.ob, a.la, a.lb, a.xa, a.xb, a.a1, a.a8, a.b1, a.b8, hS.pop.pop⟩, hS⟩
theorem f_all_a (h : FRel w A B m n na nb k s v u ha wa hb wb gk ck vl nl xs W) :
    Calls Try.prog 16 #[.pointer (some ⟨A.t, 0, none⟩)] W fun e w' => ∃ g cap, e = .returned (.slice (some ⟨g, 0, none⟩) na cap) ∧ w'.ownsRow 0 53 8 (.slice (some ⟨g, 0, none⟩) na cap) na (slCells (slots ha wa)) ∧ FRel w A B m n na nb k s v u ha wa hb wb gk ck vl nl xs w' := by
  have a := h.rel
  refine (tabAll_st h.st 7 9 8 rfl rfl rfl (by rw [a.xa, a.la]) (by rw [a.la]; exact a.a1) (by rw [a.la]; exact a.a8)).mono ?_
  rintro e w' ⟨v', he, hS⟩
  rw [a.la] at hS
  have ho : w'.ownsRow 0 53 8 v' na (slCells (slots ha wa)) := hS.get 0 rfl
  obtain ⟨g, cap, rfl, _, _⟩ := ho.form (by have := a.a1; omega)
  exact ⟨g, cap, he, ho, FRel.of a hS.pop⟩
theorem f_all_b (h : FRel w A B m n na nb k s v u ha wa hb wb gk ck vl nl xs W) :
    Calls Try.prog 16 #[.pointer (some ⟨B.t, 0, none⟩)] W fun e w' => ∃ g cap, e = .returned (.slice (some ⟨g, 0, none⟩) nb cap) ∧ w'.ownsRow 0 53 8 (.slice (some ⟨g, 0, none⟩) nb cap) nb (slCells (slots hb wb)) ∧ FRel w A B m n na nb k s v u ha wa hb wb gk ck vl nl xs w' := by
  have a := h.rel
  refine (tabAll_st h.st 4 6 5 rfl rfl rfl (by rw [a.xb, a.lb]) (by rw [a.lb]; exact a.b1) (by rw [a.lb]; exact a.b8)).mono ?_
  rintro e w' ⟨v', he, hS⟩
  rw [a.lb] at hS
  have ho : w'.ownsRow 0 53 8 v' nb (slCells (slots hb wb)) := hS.get 0 rfl
  obtain ⟨g, cap, rfl, _, _⟩ := ho.form (by have := a.b1; omega)
  exact ⟨g, cap, he, ho, FRel.of a hS.pop⟩
theorem f_same_a {g cap : Nat} (h : FRel w A B m n na nb k s v u ha wa hb wb gk ck vl nl xs W) (ho : W.ownsRow 0 53 8 (.slice (some ⟨g, 0, none⟩) na cap) na (slCells (slots ha wa))) :
    Calls Try.prog 17 #[.slice (some ⟨g, 0, none⟩) na cap, .slice (some ⟨A.g, 0, none⟩) na na] W fun e w' => e = .returned (.bool true) ∧ FRel w A B m n na nb k s v u ha wa hb wb gk ck vl nl xs w' := by
  refine (same_a h.rel ho).mono ?_
  rintro e w' ⟨he, q, rfl⟩
  exact ⟨he, h.drewN q⟩
theorem f_same_b {g cap : Nat} (h : FRel w A B m n na nb k s v u ha wa hb wb gk ck vl nl xs W) (ho : W.ownsRow 0 53 8 (.slice (some ⟨g, 0, none⟩) nb cap) nb (slCells (slots hb wb))) :
    Calls Try.prog 17 #[.slice (some ⟨g, 0, none⟩) nb cap, .slice (some ⟨B.g, 0, none⟩) nb nb] W fun e w' => e = .returned (.bool true) ∧ FRel w A B m n na nb k s v u ha wa hb wb gk ck vl nl xs w' := by
  refine (same_b h.rel ho).mono ?_
  rintro e w' ⟨he, q, rfl⟩
  exact ⟨he, h.drewN q⟩
theorem f_len_a (h : FRel w A B m n na nb k s v u ha wa hb wb gk ck vl nl xs W) : Calls Try.prog 18 #[.pointer (some ⟨A.t, 0, none⟩)] W fun e w' => e = .returned (.int .i64 na) ∧ FRel w A B m n na nb k s v u ha wa hb wb gk ck vl nl xs w' := by
  refine (len_a h.rel).mono ?_
  rintro e w' ⟨he, rfl⟩
  exact ⟨he, h⟩
theorem f_len_b (h : FRel w A B m n na nb k s v u ha wa hb wb gk ck vl nl xs W) : Calls Try.prog 18 #[.pointer (some ⟨B.t, 0, none⟩)] W fun e w' => e = .returned (.int .i64 nb) ∧ FRel w A B m n na nb k s v u ha wa hb wb gk ck vl nl xs w' := by
  refine (len_b h.rel).mono ?_
  rintro e w' ⟨he, rfl⟩
  exact ⟨he, h⟩
theorem f_log (h : FRel w A B m n na nb k s v u ha wa hb wb gk ck vl nl xs W) (hk : k ≤ 2932031007317) :
    Calls Try.prog 20 #[.pointer (some ⟨m, 0, none⟩)] W fun e w' => ∃ v', e = .returned v' ∧ w'.ownsRow 0 88 6 v' s.l.length (logCells s.l) ∧ FRel w A B m n na nb k s v u ha wa hb wb gk ck vl nl xs w' := by
  refine (log_st h.st 11 rfl h.rel.wi (by omega)).mono ?_
  rintro e w' ⟨v', he, hS⟩
  exact ⟨v', he, hS.get 0 rfl, FRel.of h.rel hS.pop⟩
theorem f_same_m {v' : Value} (h : FRel w A B m n na nb k s v u ha wa hb wb gk ck vl nl xs W) (hk : k ≤ 2932031007317) (ho : W.ownsRow 0 88 6 v' s.l.length (logCells s.l)) :
    Calls Try.prog 19 #[v', u] W fun e w' => e = .returned (.bool true) ∧ FRel w A B m n na nb k s v u ha wa hb wb gk ck vl nl xs w' := by
  have hn : MeterAt 29 88 W n s.st s.th s.dn s.mo u s.l := h.rel.st.get 8 rfl
  refine (same_true 0 0 v' u s.l W ho hn.own (by have := h.rel.wi.len; omega)).mono ?_
  rintro e w' ⟨he, q, rfl⟩
  exact ⟨he, h.drewN q⟩
end

end Go.Proofs.Ythaajlelaoimaaa
