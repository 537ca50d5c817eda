/- The least place; Verify. -/
import Derived.Test.YtcchflfeomainaaGreatDoorVfD
namespace Go.Proofs.YtcchflfeomainaaGreatDoor
open Go.RowKit
set_option linter.unusedVariables false
set_option linter.unusedSimpArgs false
attribute [local go_sem ↓] Go.wp_at_zero Go.wp_at_succ

theorem own_cutV {w : World} {B g n cap : Nat} {e : TypeId} {z : Nat} {xs : List Value} (h : w.ownsRow B e z (.slice (some ⟨g, 0, none⟩) n cap) n xs) {m : Nat} (hm : m ≤ n) : w.ownsRow B e z (.slice (some ⟨g, 0, none⟩) m cap) m (xs.take (m * z)) := by
  have hl := h.1
  have hmz : m * z ≤ n * z := Nat.mul_le_mul_right _ hm
  refine ⟨by simp; omega, ?_⟩
  rcases h.2 with ⟨h1, _⟩ | ⟨g', cap', cur, h1, hb, hg, hn, hc, hs, ht⟩
  · cases h1
  · simp only [Value.slice.injEq, Option.some.injEq, Addr.mk.injEq, and_true, true_and] at h1
    obtain ⟨rfl, rfl⟩ := h1
    refine .inr ⟨g, cap, cur, rfl, hb, hg, by omega, hc, hs, ?_⟩
    rw [← ht, List.take_take, Nat.min_eq_left hmz]
def isF : Value → Bool
  | .bool false => true
  | _ => false
/-- Steps that are left, as memory tells. -/
def wkMu (A : Wad) (w : World) : Nat :=
  2 * (match w.heap[A.gs]? with | some (.cells cs _ _) => cs.toList.countP isF | _ => 0) + (match w.cell? ⟨A.k, 3, none⟩ with | some (.slice _ n _) => n | _ => 0)
theorem countF (l : List Bool) : (l.map Value.bool).countP isF = l.count false := by
  induction l with
  | nil => rfl
  | cons x l ih => cases x <;> simp [isF, ih, List.countP_cons, List.count_cons]
section
variable {o w : World} {A : Wad} {L : List Ins} {vt : Value} {V : Vst}
theorem wkMu_eq (h : St o (wkL A L vt V) w) : wkMu A w = V.mu := by
  have h1 : w.heap[A.gs]? = some (.cells (bCells V.seen) 4 (0, 0)) := h.get 3 rfl
  have h2 : w.cell? ⟨A.k, 3, none⟩ = some vt := h.cell 0 rfl 3
  obtain ⟨a, c, rfl⟩ := wk_form (show w.ownsRow 0 70 4 vt V.todo.length (spCells V.todo) from h.get 6 rfl)
  unfold wkMu Vst.mu
  rw [h1, h2]
  simp only [bCells]
  rw [countF]
theorem leastFrom_step {e p k : Nat} : leastFrom e V (k + 1) p = if V.wrong.getD p 0 ≠ 0 then (V.wrong.getD p 0, (p : Int)) else if p < e ∧ 1 < V.count.getD p 0 then (157, (p : Int)) else leastFrom e V k (p + 1) := rfl
set_option maxRecDepth 100000 in
set_option maxHeartbeats 1000000 in
theorem least_st (h : St o (wkL A L vt V) w) (ok : Vok L.length V) (h0 : 0 < L.length) (hm : L.length ≤ 401) :
    Calls Tryz.prog 32 #[.pointer (some ⟨A.k, 0, none⟩)] w fun e w' => e = .returned (.tuple #[.int .i64 (leastM V).1, .int .i64 (leastM V).2]) ∧ w' = w := by
  have hlo : w.ownsRow 0 48 2 A.vl L.length (insCells L) := h.get 2 rfl
  obtain ⟨gl, lc, hvl⟩ : ∃ gl lc, A.vl = .slice (some ⟨gl, 0, none⟩) L.length lc := by
    rcases hlo.2 with ⟨h1, h2⟩ | ⟨g, cap, cur, h1, _⟩
    · omega
    · exact ⟨g, cap, h1⟩
  have c1 : w.cell? ⟨A.k, 1, none⟩ = some (.slice (some ⟨gl, 0, none⟩) L.length lc) := by rw [← hvl]; exact h.cell 0 rfl 1
  have c4 : w.cell? ⟨A.k, 4, none⟩ = some (.slice (some ⟨A.gc, 0, none⟩) L.length L.length) := h.cell 0 rfl 4
  have c5 : w.cell? ⟨A.k, 5, none⟩ = some (.slice (some ⟨A.gw, 0, none⟩) L.length L.length) := h.cell 0 rfl 5
  have HW : Hid (∀ p, p < L.length → w.cell? ⟨A.gw, p, none⟩ = some (.int .i64 (V.wrong.getD p 0))) := fun p hp => (h.cell 5 rfl _).trans (nCells_at _ _ (by rw [ok.w]; exact hp))
  have HC : Hid (∀ p, p < L.length → w.cell? ⟨A.gc, p, none⟩ = some (.int .i64 (V.count.getD p 0))) := fun p hp => (h.cell 4 rfl _).trans (nCells_at _ _ (by rw [ok.c]; exact hp))
  have HL : Hid (leastM V = leastFrom (L.length - 1) V (L.length - 0) 0) := by show leastM V = _; unfold leastM; rw [ok.w]; rfl
  generalize leastM V = RR at *
  generalize L.length = n at *
  clear h hlo ok hvl
  have b1 : (1 : Int) ≤ (n : Int) := by omega
  have b2 : (n : Int) ≤ 401 := by omega
  go_enter Tryz.func32, Tryz.ntmps32
  go_wp2
  go_loop [18] (fun i => ∃ j : Nat, i = .int .i64 j ∧ j ≤ n ∧ RR = leastFrom (n - 1) V (n - j) j) (fun i => n - (intOf i).toNat)
  case atStart => exact ⟨0, rfl, Nat.zero_le _, HL.out⟩
  case round =>
    clear HL
    obtain ⟨j, rfl, hj, hl⟩ := hrel
    have HL := hid hl
    clear hl
    by_cases hlt : j < n
    · have HL2 : Hid (RR = if V.wrong.getD j 0 ≠ 0 then (V.wrong.getD j 0, (j : Int)) else if j < n - 1 ∧ 1 < V.count.getD j 0 then (157, (j : Int)) else leastFrom (n - 1) V (n - (j + 1)) (j + 1)) := by
        have := HL.out
        rw [show n - j = (n - (j + 1)) + 1 by omega] at this
        exact this
      have cw := HW.out j hlt
      have cc := HC.out j hlt
      generalize V.wrong.getD j 0 = wv at *
      generalize V.count.getD j 0 = cv at *
      have h0 : (0 : Int) ≤ (j : Int) := Int.natCast_nonneg _
      have h1 : (j : Int) < (n : Int) := by omega
      clear HL HW HC
      by_cases hw : wv = 0
      · have HL3 : Hid (RR = if j < n - 1 ∧ 1 < cv then (157, (j : Int)) else leastFrom (n - 1) V (n - (j + 1)) (j + 1)) := by have := HL2.out; rwa [if_neg (by simp [hw])] at this
        have t0 : (wv != 0) = false := by simp [hw]
        clear HL2 hw
        by_cases he : j < n - 1
        · have t1 : decide ((j : Int) < (n : Int) - 1) = true := by simp; omega
          by_cases hc : 1 < cv
          · have HX : Hid (RR = (157, (j : Int))) := by have := HL3.out; rwa [if_pos ⟨he, hc⟩] at this
            have t2 := decide_eq_true hc
            clear HL3
            go_wp2
            go_ret2
            exact ⟨by rw [HX.out]; rfl, rfl⟩
          · have HX : Hid (RR = leastFrom (n - 1) V (n - (j + 1)) (j + 1)) := by have := HL3.out; rwa [if_neg (fun h => hc h.2)] at this
            have t2 := decide_eq_false hc
            clear HL3
            go_wp2
            go_round
            case rel => exact ⟨j + 1, by simp, by omega, HX.out⟩
            case measure => simp [intOf]; omega
        · have t1 : decide ((j : Int) < (n : Int) - 1) = false := by simp; omega
          have HX : Hid (RR = leastFrom (n - 1) V (n - (j + 1)) (j + 1)) := by have := HL3.out; rwa [if_neg (fun h => he h.1)] at this
          clear HL3
          go_wp2
          go_round
          case rel => exact ⟨j + 1, by simp, by omega, HX.out⟩
          case measure => simp [intOf]; omega
      · have HX : Hid (RR = (wv, (j : Int))) := by have := HL2.out; rwa [if_pos hw] at this
        have t0 : (wv != 0) = true := by simpa using hw
        clear HL2
        go_wp2
        go_ret2
        exact ⟨by rw [HX.out]; rfl, rfl⟩
    · have h1 : ¬ (j : Int) < (n : Int) := by omega
      have HX : Hid (RR = (0, 0)) := by have := HL.out; rwa [show n - j = 0 by omega] at this
      clear HL HW HC
      go_wp2
      go_ret2
      exact ⟨by rw [HX.out]; rfl, rfl⟩
end
end Go.Proofs.YtcchflfeomainaaGreatDoor
