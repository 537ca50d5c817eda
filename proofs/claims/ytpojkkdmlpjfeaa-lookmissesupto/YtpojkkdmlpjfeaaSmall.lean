/- Meters' small functions: a new one, Begin, Steps, Done, Most, Log; and the document's Begin. -/
import Derived.Test.YtpojkkdmlpjfeaaMeter
import Derived.Test.YtpojkkdmlpjfeaaGrow
import Derived.Laws.MakeOwn
import Derived.Laws.OwnMore
namespace Go.Proofs.Ytpojkkdmlpjfeaa
open Go.RowKit
set_option linter.unusedVariables false
set_option linter.unusedSimpArgs false

theorem newMeter_st {o w : World} {its : List It} (h : St o its w) :
    Calls Try.prog 49 #[] w fun e w' => e = .returned (.pointer (some ⟨w.heap.size, 0, none⟩)) ∧ St o (meterI 116 (some w.heap.size) Mt.zero (.slice none 0 0) :: its) w' ∧ w'.heap.size = w.heap.size + 1 := by
  have hS : Hid (St o (meterI 116 (some w.heap.size) Mt.zero (.slice none 0 0) :: its) (w.alloc (.cells #[.int .i64 0, .int .i64 0, .int .i64 0, .int .i64 0, .slice none 0 0] 116))) :=
    h.push (meterI 116 (some w.heap.size) Mt.zero (.slice none 0 0)) (kept_alloc w _) ⟨heap_alloc_new w _, World.ownsRow_nil _ _ _ _, by simp [Value.ownBlock]⟩ (by simp [meterI, Value.ownBlock]) (by simp [meterI, Value.ownBlock])
  go_enter Try.func49, Try.ntmps49
  go_wp2
  go_ret
  exact ⟨rfl, hS.out, by simp⟩

set_option maxRecDepth 100000 in
set_option maxHeartbeats 1000000 in
theorem cloneLog (b0 : Nat) (v : Value) (l : List Acc) (w : World) (hown : w.ownsRow b0 114 6 v l.length (logCells l)) (hb : l.length ≤ 4611686018427) :
    Calls Try.prog 46 #[v] w fun e w' => ∃ v', e = .returned v' ∧ w'.ownsRow w.heap.size 114 6 v' l.length (logCells l) ∧ Kept (fun _ => False) w w' := by
  obtain ⟨i0, hi0, hz0, hz1, hz2⟩ := info_parts Try.infoAcc
  have hE : ∀ a n c w, (binOp .eql 71 (.slice a n c) (.slice none 0 0)).run Try.prog w = .ok (.bool a.isNone) w := fun a n c w => Lib.run_eql_slice_nil w 71 114 a n c 0 0 Try.underlying71
  rcases hown.2 with ⟨hv, hn⟩ | ⟨g, cap, cur, hv, _⟩
  · subst hv
    have hl : l = [] := List.length_eq_zero_iff.1 hn
    subst hl
    clear hown hn
    go_enter Try.func46, Try.ntmps46
    go_wp2
    go_ret
    exact ⟨_, rfl, World.ownsRow_nil _ _ _ _, Kept.refl _ _⟩
  · subst hv
    have hcells : ∀ j u, (logCells l)[j]? = some u → (w.alloc (.cells #[] 114)).cell? ((⟨g, 0, none⟩ : Addr).add j) = some u := (hown.alloc _).cells (g := g) rfl
    have hlen := hown.1
    have hml : l.length ≤ maxLen := by unfold maxLen; omega
    clear hown
    go_enter Try.func46, Try.ntmps46
    go_wp2_with (at_builtin; refine wpList_append_copy (base := w.heap.size) (size := 6) (bytes := 48) (news := logCells l) rfl (.tmp 5) (.tmp 6) 71 rfl i0 Try.underlying71 hi0 hz0 hz1 hz2 rfl (by omega) w.heap.size rfl (World.ownsRow_made w #[] 0 (Nat.le_refl _) (Nat.zero_le _) rfl) ⟨g, 0, none⟩ cap rfl hlen hcells (logCells_one l) hml (by omega) (by simp) ?_; intro v' w1 hown' hgrow)
    go_ret
    refine ⟨_, rfl, hown', ((Kept.refl _ w).alloc _).grown hgrow (fun k e => ?_)⟩
    right
    simp at e
    omega

set_option maxRecDepth 100000 in
theorem log_st {o w : World} {its : List It} (h : St o its w) (i : Nat) {m : Nat} {s : Mt} {v : Value} (hi : its[i]? = some (meterI 116 (some m) s v)) {n : Nat} (hw : s.within n) (hn : n ≤ 4611686018427) :
    Calls Try.prog 26 #[.pointer (some ⟨m, 0, none⟩)] w fun e w' => ∃ v', e = .returned v' ∧ St o (ownI 114 6 v' s.l.length (logCells s.l) :: its) w' := by
  have hm : MeterAt 116 114 w m s.st s.th s.dn s.mo v s.l := h.get i hi
  have c : w.cell? ⟨m, 4, none⟩ = some v := cell_of_heap hm.heap
  have hb : s.l.length ≤ 4611686018427 := by have := hw.len; omega
  have hc := cloneLog 0 v s.l w hm.own hb
  have hS : Hid (∀ v' w', w'.ownsRow w.heap.size 114 6 v' s.l.length (logCells s.l) → Kept (fun _ => False) w w' → St o (ownI 114 6 v' s.l.length (logCells s.l) :: its) w') := fun v' w' p k => h.own k p
  clear h hi hm hw hn hb
  generalize logCells s.l = L at *
  go_enter Try.func26, Try.ntmps26
  go_wp2_with (go_at_call 46; refine hc.mono ?_; rintro e w' ⟨v', rfl, ho', hk⟩)
  go_ret
  exact ⟨_, rfl, hS.out _ _ ho' hk⟩
end Go.Proofs.Ytpojkkdmlpjfeaa
