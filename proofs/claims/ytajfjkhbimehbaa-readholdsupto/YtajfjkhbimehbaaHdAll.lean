/- Rows of Hd: All. -/
import Derived.Test.YtajfjkhbimehbaaHd
namespace Go.Proofs.Ytajfjkhbimehbaa
open Go.RowKit
set_option linter.unusedVariables false
set_option linter.unusedSimpArgs false
attribute [local go_sem ↓] Go.wp_at_zero Go.wp_at_succ


set_option maxRecDepth 100000 in
set_option maxHeartbeats 1000000 in
theorem hdAll_st {o w : World} {its : List It} (h : St o its w) (j : Nat) {r c : Nat} {mo : Option Nat} {kind : Int} {xs : List Hd} (hj : its[j]? = some (hdRowI r c mo kind xs)) :
    Calls Try.prog 69 #[.pointer (some ⟨r, 0, none⟩)] w fun e w' => ∃ v', e = .returned v' ∧ St o (ownI 47 6 v' xs.length (hdCells xs) :: its) w' := by
  obtain ⟨i0, hi0, hz0, hz1, hz2⟩ := info_parts Try.infoHd
  have hr : HdRow w r c mo kind xs := h.get j hj
  have hE : ∀ a n c w, (binOp .eql 136 (.slice a n c) (.slice none 0 0)).run Try.prog w = .ok (.bool a.isNone) w := fun a n c w => Lib.run_eql_slice_nil w 136 47 a n c 0 0 Try.underlying136
  have c2 : w.cell? ⟨r, 2, none⟩ = some (.slice (some ⟨c, 0, none⟩) xs.length xs.length) := cell_of_heap hr.row
  have hcl : Calls Try.prog 85 #[.slice (some ⟨c, 0, none⟩) xs.length xs.length] w fun e w' => ∃ v', e = .returned v' ∧ w'.ownsRow w.heap.size 47 6 v' xs.length (hdCells xs) ∧ Kept (fun _ => False) w w' := by
    have hcells : ∀ j u, (hdCells xs)[j]? = some u → (w.alloc (.cells #[] 47)).cell? ((⟨c, 0, none⟩ : Addr).add j) = some u := by
      have h2 : (w.alloc (.cells #[] 47)).heap[c]? = some (.cells (hdCells xs).toArray 47 (0, 0)) := (Below.heap_alloc w _ c (lt_of_heap hr.cells)).trans hr.cells
      intro j u hu
      exact World.news_of_block (cs := (hdCells xs).toArray) h2 j u (by simpa using hu)
    have hsm := hr.small
    have hlen := hdCells_length xs
    have h1 := hdCells_one xs
    generalize hdCells xs = TC at *
    clear c2 hr h hj
    go_enter Try.func85, Try.ntmps85
    go_wp2_with (at_builtin; refine wpList_append_own_at _ rfl (.tmp 5) (.tmp 6) 136 rfl w.heap.size 47 i0 _ 6 48 Try.underlying136 hi0 hz0 hz1 hz2 rfl (by omega) (.slice (some ⟨w.heap.size, 0, none⟩) 0 0) 0 [] rfl (World.ownsRow_made w #[] 0 (Nat.le_refl _) (Nat.zero_le _) rfl) ⟨c, 0, none⟩ xs.length xs.length TC rfl hlen hcells h1 (by unfold maxLen; omega) (by omega) (by simp) ?_; intro v' w1 hown' hgrow hnil hat)
    go_ret
    refine ⟨_, rfl, by simpa using hown', ((Kept.refl _ w).alloc _).grown hgrow (fun k e => ?_)⟩
    right
    simp [Value.ownBlock] at e
    omega
  have hS : Hid (∀ v' w', w'.ownsRow w.heap.size 47 6 v' xs.length (hdCells xs) → Kept (fun _ => False) w w' → St o (ownI 47 6 v' xs.length (hdCells xs) :: its) w') := fun v' w' p k => h.own k p
  clear hr h hj
  generalize hdCells xs = TC at *
  go_enter Try.func69, Try.ntmps69
  go_wp2_with (go_at_call 85; refine hcl.mono ?_; rintro e w' ⟨v', rfl, ho', hk⟩)
  go_ret
  exact ⟨_, rfl, hS.out _ _ ho' hk⟩

end Go.Proofs.Ytajfjkhbimehbaa
