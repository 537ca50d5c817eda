/- The code's Log: a new list of all that was noted. -/
import Derived.Test.YtebhjfoggogmaaaSmall
import Derived.Test.YtebhjfoggogmaaaNote
namespace Go.Proofs.Ytebhjfoggogmaaa
open Go.RowKit
set_option linter.unusedVariables false
set_option linter.unusedSimpArgs false

theorem logCells_one (l : List Acc) : ∀ u ∈ logCells l, u.oneCell' = true := by
  induction l with
  | nil => intro u h; cases h
  | cons a l ih =>
    intro u h
    simp only [logCells, List.mem_append] at h
    rcases h with h | h
    · simp only [Acc.cells, List.mem_cons, List.not_mem_nil, or_false] at h
      rcases h with h | h | h | h | h | h <;> subst h <;> rfl
    · exact ih u h

set_option maxRecDepth 100000 in
set_option maxHeartbeats 1000000 in
theorem clone_any (b0 : Nat) (v : Value) (l : List Acc) (w : World) (hown : w.ownsRow b0 50 6 v l.length (logCells l)) (hb : (l.length + 1) * 48 ≤ 140737488355328) :
    Calls Try.prog 39 #[v] w fun e w' => ∃ v', e = .returned v' ∧ w'.ownsRow w.heap.size 50 6 v' l.length (logCells l) ∧ Kept (fun _ => False) w w' := by
  obtain ⟨i0, hi0, hz0, hz1, hz2⟩ := info_parts Try.info50
  have hE : ∀ a n c w, (binOp .eql 32 (.slice a n c) (.slice none 0 0)).run Try.prog w = .ok (.bool a.isNone) w := fun a n c w => Lib.run_eql_slice_nil w 32 50 a n c 0 0 Try.underlying32
  rcases hown.2 with ⟨hv, hn⟩ | ⟨g, cap, cur, hv, _⟩
  · subst hv
    have hl : l = [] := List.length_eq_zero_iff.1 hn
    subst hl
    clear hown hn
    go_enter Try.func39, Try.ntmps39
    go_wp2
    go_ret
    exact ⟨_, rfl, World.ownsRow_nil _ _ _ _, Kept.refl _ _⟩
  · subst hv
    have hcells : ∀ j u, (logCells l)[j]? = some u → (w.alloc (.cells #[] 50)).cell? ((⟨g, 0, none⟩ : Addr).add j) = some u := (hown.alloc _).cells (g := g) rfl
    have hlen := hown.1
    have hml : l.length ≤ maxLen := by unfold maxLen; omega
    clear hown
    go_enter Try.func39, Try.ntmps39
    go_wp2_with (at_builtin; refine wpList_append_own_at _ rfl (.tmp 5) (.tmp 6) 32 rfl w.heap.size 50 i0 _ 6 48 Try.underlying32 hi0 hz0 hz1 hz2 rfl (by omega) (.slice (some ⟨w.heap.size, 0, none⟩) 0 0) 0 [] rfl (World.ownsRow_made w #[] 0 (Nat.le_refl _) (Nat.zero_le _) rfl) ⟨g, 0, none⟩ l.length cap (logCells l) rfl hlen hcells (logCells_one l) (by omega) (by omega) (by simp) ?_; intro v' w1 hown' hgrow hnil hat)
    go_ret
    refine ⟨_, rfl, by simpa using hown', ((Kept.refl _ w).alloc _).grown hgrow (fun k e => ?_)⟩
    right
    simp [Value.ownBlock] at e
    omega

set_option maxRecDepth 100000 in
theorem log_any (b m : Nat) (st th dn mo : Int) (v : Value) (l : List Acc) (w : World) (h : MeterAt 79 50 b w m st th dn mo v l) (hb : (l.length + 1) * 48 ≤ 140737488355328) :
    Calls Try.prog 16 #[.pointer (some ⟨m, 0, none⟩)] w fun e w' => ∃ v', e = .returned v' ∧ w'.ownsRow w.heap.size 50 6 v' l.length (logCells l) ∧ Kept (fun _ => False) w w' := by
  have c : w.cell? ⟨m, 4, none⟩ = some v := cell_of_heap h.heap
  have ho := h.own
  clear h
  go_enter Try.func16, Try.ntmps16
  go_wp2_with (go_at_call 39; refine (clone_any b v l _ ho hb).mono ?_; rintro e w' ⟨v', rfl, ho', hk⟩)
  go_ret
  exact ⟨_, rfl, ho', hk⟩
end Go.Proofs.Ytebhjfoggogmaaa
