/- What is done to one slot changes no other one. -/
import Derived.Test.YtajfjkhbimehbaaGreatTabN
import Derived.Test.YtajfjkhbimehbaaGreatEq
namespace Go.Proofs.YtajfjkhbimehbaaGreat
open Go.RowKit
set_option linter.unusedVariables false
set_option linter.unusedSimpArgs false

theorem HOp.far (p : HOp) (hs : List Hd) (k i : Nat) (h : i ≠ k) : (p.H hs (k : Int))[i]? = hs[i]? := by
  unfold HOp.H
  split
  · split
    · rfl
    · split
      · rw [List.getElem?_set_ne (by simpa using fun e => h e.symm)]
      · rfl
  · rfl
theorem putW_far (ws : List Int) (n : Nat) (k : Nat) (j x : Int) (i : Nat) (h : i ≠ k) : (putW ws n (k : Int) j x).getD (i * 2) 0 = ws.getD (i * 2) 0 ∧ (putW ws n (k : Int) j x).getD (i * 2 + 1) 0 = ws.getD (i * 2 + 1) 0 := by
  unfold putW
  rcases word_cases n (k : Int) j with ⟨a, b, e1, rfl, h1, h2, _, e2⟩ | ⟨_, e2⟩
  · have hak : a = k := by omega
    subst hak
    rw [e2]
    simp only [List.getD_eq_getElem?_getD]
    rw [List.getElem?_set_ne (by omega), List.getElem?_set_ne (by omega)]
    exact ⟨rfl, rfl⟩
  · rw [e2]; exact ⟨rfl, rfl⟩
/-- All slots but k are as they were. -/
def Others (n k : Nat) (hs hs0 : List Hd) (ws ws0 : List Int) : Prop :=
  ∀ i, i < n → i ≠ k → hs[i]? = hs0[i]? ∧ ws.getD (i * 2) 0 = ws0.getD (i * 2) 0 ∧ ws.getD (i * 2 + 1) 0 = ws0.getD (i * 2 + 1) 0
theorem Others.refl (n k : Nat) (hs : List Hd) (ws : List Int) : Others n k hs hs ws ws := fun i _ _ => ⟨rfl, rfl, rfl⟩
theorem Others.head {n k : Nat} {hs hs0 : List Hd} {ws ws0 : List Int} (h : Others n k hs hs0 ws ws0) (p : HOp) : Others n k (p.H hs (k : Int)) hs0 ws ws0 := fun i hi hk => by
  rw [HOp.far p hs k i hk]; exact h i hi hk
theorem Others.word {n k : Nat} {hs hs0 : List Hd} {ws ws0 : List Int} (h : Others n k hs hs0 ws ws0) (m : Nat) (j x : Int) : Others n k hs hs0 (putW ws m (k : Int) j x) ws0 := fun i hi hk => by
  obtain ⟨h1, h2⟩ := putW_far ws m k j x i hk
  rw [h1, h2]; exact h i hi hk
theorem Others.slot {n k : Nat} {hs hs0 : List Hd} {ws ws0 : List Int} (h : Others n k hs hs0 ws ws0) (h1 : hs.length = n) (h2 : hs0.length = n) (w1 : ws.length = n * 2) (w2 : ws0.length = n * 2) {i : Nat} (hi : i < n) (hk : i ≠ k) : (slots hs ws)[i]? = (slots hs0 ws0)[i]? := by
  obtain ⟨e1, e2, e3⟩ := h i hi hk
  rw [slots_at hs ws (by omega) i (by omega), slots_at hs0 ws0 (by omega) i (by omega), e2, e3]
  have : hs[i] = hs0[i] := by
    rw [List.getElem?_eq_getElem (by omega), List.getElem?_eq_getElem (by omega)] at e1
    exact Option.some.inj e1
  rw [this]
/-- The eight cells of a slot that is told. -/
theorem told_cells {w : World} {g n cap : Nat} {ss : List Sl} (h : w.ownsRow 0 156 8 (.slice (some ⟨g, 0, none⟩) n cap) n (slCells ss)) {i : Nat} (hi : i < n) {s : Sl} (hs : ss[i]? = some s) :
    w.cell? ⟨g, i * 8, none⟩ = some (.int .i64 s.gn) ∧ w.cell? ⟨g, i * 8 + 1, none⟩ = some (.int .i64 s.sa) ∧ w.cell? ⟨g, i * 8 + 2, none⟩ = some (.int .i64 s.sp) ∧ w.cell? ⟨g, i * 8 + 3, none⟩ = some (.int .i64 s.th) ∧ w.cell? ⟨g, i * 8 + 4, none⟩ = some (.bool s.dm) ∧ w.cell? ⟨g, i * 8 + 5, none⟩ = some (.int .i64 s.wy) ∧ w.cell? ⟨g, i * 8 + 6, none⟩ = some (.int .u64 s.wa) ∧ w.cell? ⟨g, i * 8 + 7, none⟩ = some (.int .u64 s.wb) := by
  obtain ⟨hlt, he⟩ := List.getElem?_eq_some_iff.1 hs
  have c := slCells_at ss i hlt
  rw [he] at c
  obtain ⟨c0, c1, c2, c3, c4, c5, c6, c7⟩ := c
  exact ⟨(h.cellAt _ (by omega)).trans c0, (h.cellAt _ (by omega)).trans c1, (h.cellAt _ (by omega)).trans c2, (h.cellAt _ (by omega)).trans c3, (h.cellAt _ (by omega)).trans c4, (h.cellAt _ (by omega)).trans c5, (h.cellAt _ (by omega)).trans c6, (h.cellAt _ (by omega)).trans c7⟩
end Go.Proofs.YtajfjkhbimehbaaGreat
