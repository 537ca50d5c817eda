/- Package ghost: looksOut, writes, commits, aborts, mayBe, moveOf, newBook. -/
import Derived.Test.YtkhbkdabihokjaaGm
import Derived.BigQuiet
import Derived.Deep.RegionHeld3
import Derived.WalkKit
import Derived.Deep.DrawnRows
import Derived.Deep.CutBlock
import Derived.Deep.RegionWith
import Derived.TacticsInMore
namespace Go.Proofs.Ytkhbkdabihokjaa
open Go.RowKit
set_option linter.unusedVariables false
set_option linter.unusedSimpArgs false
attribute [local go_sem ↓] Go.wp_at_zero Go.wp_at_succ

/-- A move that reads what others left. -/
def Mv.out (m : Mv) : Bool := !m.wr && !m.ow
theorem looksOut_any (m : Mv) (w : World) : Calls Try.prog 33 #[mvV m] w fun e w' => e = .returned (.bool m.out) ∧ Kept (fun _ => False) w w' := by
  obtain ⟨a, b, c, d, e, f⟩ := m
  have HK := hid (kept_alloc w (.cells #[.int .i64 a, .bool b, .int .i64 c, .int .i64 d, .bool e, .int .i64 f] 38))
  unfold Mv.out mvV
  simp only
  cases b <;> cases e <;>
  · go_enter Try.func33, Try.ntmps33
    go_wp2
    go_ret
    exact ⟨rfl, HK.out⟩
theorem writes_any (m : Mv) (w : World) : Calls Try.prog 34 #[mvV m] w fun e w' => e = .returned (.bool m.wr) ∧ Kept (fun _ => False) w w' := by
  obtain ⟨a, b, c, d, e, f⟩ := m
  have HK := hid (kept_alloc w (.cells #[.int .i64 a, .bool b, .int .i64 c, .int .i64 d, .bool e, .int .i64 f] 38))
  unfold mvV
  simp only
  go_enter Try.func34, Try.ntmps34
  go_wp2
  go_ret
  exact ⟨rfl, HK.out⟩
theorem commits_any (m : Sm) (w : World) : Calls Try.prog 35 #[syV m] w fun e w' => e = .returned (.bool (m.s.ft == 1)) ∧ Kept (fun _ => False) w w' := by
  obtain ⟨⟨a, b, c, d, e, f, g, h, i, ms⟩, la, lc⟩ := m
  have HK := hid (kept_alloc w (.cells #[.int .i64 a, .int .i64 b, .int .i64 c, .int .i64 d, .int .i64 e, .int .i64 f, .int .i64 g, .int .i64 h, .int .i64 i, .slice la ms.length lc] 36))
  unfold syV
  simp only
  go_enter Try.func35, Try.ntmps35
  go_wp2
  go_ret
  exact ⟨rfl, HK.out⟩
theorem aborts_any (m : Sm) (w : World) : Calls Try.prog 43 #[syV m] w fun e w' => e = .returned (.bool (m.s.ft == 2)) ∧ Kept (fun _ => False) w w' := by
  obtain ⟨⟨a, b, c, d, e, f, g, h, i, ms⟩, la, lc⟩ := m
  have HK := hid (kept_alloc w (.cells #[.int .i64 a, .int .i64 b, .int .i64 c, .int .i64 d, .int .i64 e, .int .i64 f, .int .i64 g, .int .i64 h, .int .i64 i, .slice la ms.length lc] 36))
  unfold syV
  simp only
  go_enter Try.func43, Try.ntmps43
  go_wp2
  go_ret
  exact ⟨rfl, HK.out⟩
set_option maxHeartbeats 1000000 in
theorem mayBe_any (v : Ev) (w : World) : Calls Try.prog 44 #[evV v] w fun e w' => e = .returned (.bool v.may) ∧ Kept (fun _ => False) w w' := by
  obtain ⟨kd, st, th, sp, ce, x, ow, ga, er, by_⟩ := v
  have HK := hid (kept_alloc w (.cells #[.int .i64 kd, .int .i64 st, .int .i64 th, .int .i64 sp, .int .i64 ce, .int .i64 x, .bool ow, .int .i64 ga, .int .i64 er, .int .i64 by_] 26))
  unfold Ev.may evV
  simp only
  have HQ : Hid (∀ b w', (decide (1 ≤ kd) && decide (kd ≤ 6) && decide (1 ≤ th) && decide (th ≤ 8) && decide (1 ≤ sp) && decide (sp ≤ st)) = b → Kept (fun _ => False) w w' → (fun e w' => e = .returned (.bool (decide (1 ≤ kd) && decide (kd ≤ 6) && decide (1 ≤ th) && decide (th ≤ 8) && decide (1 ≤ sp) && decide (sp ≤ st))) ∧ Kept (fun _ => False) w w') (Ending.returned (.bool b)) w') := fun b w' h1 h2 => ⟨by rw [h1], h2⟩
  generalize (fun (e : Ending) (w' : World) => e = .returned (.bool (decide (1 ≤ kd) && decide (kd ≤ 6) && decide (1 ≤ th) && decide (th ≤ 8) && decide (1 ≤ sp) && decide (sp ≤ st))) ∧ Kept (fun _ => False) w w') = Qp at *
  by_cases h1 : 1 ≤ kd
  · have t1 : decide (1 ≤ kd) = true := by simpa using h1
    clear h1
    by_cases h2 : kd ≤ 6
    · have t2 : decide (kd ≤ 6) = true := by simpa using h2
      clear h2
      by_cases h3 : 1 ≤ th
      · have t3 : decide (1 ≤ th) = true := by simpa using h3
        clear h3
        by_cases h4 : th ≤ 8
        · have t4 : decide (th ≤ 8) = true := by simpa using h4
          clear h4
          by_cases h5 : 1 ≤ sp
          · have t5 : decide (1 ≤ sp) = true := by simpa using h5
            clear h5
            by_cases h6 : sp ≤ st
            · have t6 : decide (sp ≤ st) = true := by simpa using h6
              have HQ1 := hid (HQ.out true _ (by simp only [t1, t2, t3, t4, t5, t6, Bool.true_and]) HK.out)
              clear HQ h6
              go_enter Try.func44, Try.ntmps44
              go_wp2
              exact HQ1.out
            · have t6 : decide (sp ≤ st) = false := by simpa using h6
              have HQ1 := hid (HQ.out false _ (by simp only [t6, Bool.and_false, Bool.false_and]) HK.out)
              clear HQ h6
              go_enter Try.func44, Try.ntmps44
              go_wp2
              exact HQ1.out
          · have t5 : decide (1 ≤ sp) = false := by simpa using h5
            clear h5
            have HQ1 := hid (HQ.out false _ (by simp only [t5, Bool.and_false, Bool.false_and]) HK.out)
            clear HQ
            go_enter Try.func44, Try.ntmps44
            go_wp2
            exact HQ1.out
        · have t4 : decide (th ≤ 8) = false := by simpa using h4
          clear h4
          have HQ1 := hid (HQ.out false _ (by simp only [t4, Bool.and_false, Bool.false_and]) HK.out)
          clear HQ
          go_enter Try.func44, Try.ntmps44
          go_wp2
          exact HQ1.out
      · have t3 : decide (1 ≤ th) = false := by simpa using h3
        clear h3
        have HQ1 := hid (HQ.out false _ (by simp only [t3, Bool.and_false, Bool.false_and]) HK.out)
        clear HQ
        go_enter Try.func44, Try.ntmps44
        go_wp2
        exact HQ1.out
    · have t2 : decide (kd ≤ 6) = false := by simpa using h2
      clear h2
      have HQ1 := hid (HQ.out false _ (by simp only [t2, Bool.and_false, Bool.false_and]) HK.out)
      clear HQ
      go_enter Try.func44, Try.ntmps44
      go_wp2
      exact HQ1.out
  · have t1 : decide (1 ≤ kd) = false := by simpa using h1
    clear h1
    have HQ1 := hid (HQ.out false _ (by simp only [t1, Bool.and_false, Bool.false_and]) HK.out)
    clear HQ
    go_enter Try.func44, Try.ntmps44
    go_wp2
    exact HQ1.out
theorem moveOf_any (v : Ev) (w : World) : Calls Try.prog 46 #[evV v] w fun e w' => e = .returned (mvV v.move) ∧ Kept (fun _ => False) w w' := by
  obtain ⟨kd, st, th, sp, ce, x, ow, ga, er, by_⟩ := v
  have HQ : Hid (∀ m w', Ev.move ⟨kd, st, th, sp, ce, x, ow, ga, er, by_⟩ = m → Kept (fun _ => False) w w' → (fun e w' => e = .returned (mvV (Ev.move ⟨kd, st, th, sp, ce, x, ow, ga, er, by_⟩)) ∧ Kept (fun _ => False) w w') (Ending.returned (mvV m)) w') := fun m w' h1 h2 => ⟨by rw [h1], h2⟩
  generalize (fun (e : Ending) (w' : World) => e = .returned (mvV (Ev.move ⟨kd, st, th, sp, ce, x, ow, ga, er, by_⟩)) ∧ Kept (fun _ => False) w w') = Qp at *
  have HK : Hid (∀ a b c, Kept (fun _ => False) w (((w.alloc a).alloc b).alloc c)) := hid (fun a b c => ((kept_alloc w a).alloc b).alloc c)
  unfold evV
  simp only
  have hmx : (Try.prog).follows .mixedOrders = true := by kernel_rfl
  by_cases h3 : kd = 3
  · subst h3
    have HQ1 := hid (fun a b c => HQ.out ⟨st, true, ce, x, false, 0⟩ _ rfl (HK.out a b c))
    go_enter Try.func46, Try.ntmps46
    go_wp2
    exact bodyPost_ret (v := mvV ⟨st, true, ce, x, false, 0⟩) (by simp [results, Try.f46, go_sem]) rfl (HQ1.out _ _ _)
  · have t3 : (kd == 3) = false := by simpa using h3
    cases ow
    · have HQ1 := hid (fun a b c => HQ.out ⟨st, false, ce, x, false, ga⟩ _ (by simp [Ev.move, h3]) (HK.out a b c))
      clear h3
      go_enter Try.func46, Try.ntmps46
      go_wp2
      exact bodyPost_ret (v := mvV ⟨st, false, ce, x, false, ga⟩) (by simp [results, Try.f46, go_sem]) rfl (HQ1.out _ _ _)
    · have HQ1 := hid (fun a b c => HQ.out ⟨st, false, ce, x, true, 0⟩ _ (by simp [Ev.move, h3]) (HK.out a b c))
      clear h3
      go_enter Try.func46, Try.ntmps46
      go_wp2
      exact bodyPost_ret (v := mvV ⟨st, false, ce, x, true, 0⟩) (by simp [results, Try.f46, go_sem]) rfl (HQ1.out _ _ _)
theorem newBook_any (w : World) : Calls Try.prog 29 #[] w fun e w' => ∃ X mb, e = .returned (.pointer (some ⟨X, 0, none⟩)) ∧ St w [boxI X #[.slice none 0 0, .map (some mb), .int .i64 0] 65, mapV mb []] w' := by
  have s1 := ((St.nil w).newMap).box #[.slice none 0 0, .map (some w.heap.size), .int .i64 0] 65
  rw [alloc_size] at s1
  have HS := hid s1
  clear s1
  have hmm := @run_makeMap Try.prog
  go_enter Try.func29, Try.ntmps29
  go_wp2
  go_ret
  exact ⟨_, _, rfl, HS.out⟩
end Go.Proofs.Ytkhbkdabihokjaa
