/- The law's first example: awake. -/
import Derived.Test.YtoejhbecogmdbaaLgS
import Derived.Test.YtoejhbecogmdbaaRefC
namespace Go.Proofs.Ytoejhbecogmdbaa
open Go.RowKit
set_option linter.unusedVariables false
set_option linter.unusedSimpArgs false

theorem wfi {k : Int} (h : -9223372036854775808 ≤ k) (h2 : k < 9223372036854775808) : (Lit.int .i64 k).wf = true := WalkArith.wf_i64 (by omega)
theorem St.newLog {P : Program} {t e : TypeId} {z : Nat} {K : TypeId} {OK : Value → Prop} {o w w' : World} {its : List It} {most : Int} (h : St o its w) (hl : LogAt P t e z K OK w' (w.heap.size + 1) most (.slice none 0 0) w.heap.size []) (k : Kept (fun _ => False) w w') : St o (logI P t e z K OK (w.heap.size + 1) most (.slice none 0 0) w.heap.size [] :: its) w' :=
  h.push (logI P t e z K OK (w.heap.size + 1) most (.slice none 0 0) w.heap.size []) k hl hl.nodup (by simp [logI, foot, Value.ownBlock])
set_option maxRecDepth 100000 in
set_option maxHeartbeats 2000000 in
theorem up_any (w : World) : Calls Try.prog 5 #[] w fun e w' => e = .returned (.bool true) ∧ Kept (fun _ => False) w w' := by
  go_enter Try.func5, Try.ntmps5
  go_wp2_with fail
  refine (newA_no 0 w (by omega)).mono ?_
  rintro e w1 ⟨rfl, rfl⟩
  go_wp2_with fail
  refine (newS_yes 2 w1 (by omega) (by omega)).mono ?_
  rintro e w2 ⟨rfl, hl, hk⟩
  have hS := (St.nil w1).newLog hl hk
  clear hl hk
  obtain ⟨p, hp⟩ : ∃ p, p = w1.heap.size + 1 := ⟨_, rfl⟩
  rw [← hp] at hS ⊢
  clear hp
  go_wp2_with fail
  refine (putS_new (hS.get 0 rfl) (k := 5) (wfi (by omega) (by omega)) (by simp) (by simp) { data := #[97] }).mono ?_
  rintro e w3 ⟨rfl, hT⟩
  obtain ⟨v3, hS⟩ := hS.turn 0 rfl hT
  simp only [List.set_cons_zero, List.nil_append] at hS
  clear hT
  go_wp2_with fail
  refine (putS_new (hS.get 0 rfl) (k := 3) (wfi (by omega) (by omega)) (by simp) (by simp) { data := #[98] }).mono ?_
  rintro e w4 ⟨rfl, hT⟩
  obtain ⟨v4, hS⟩ := hS.turn 0 rfl hT
  simp only [List.set_cons_zero, List.cons_append, List.nil_append] at hS
  clear hT
  go_wp2_with fail
  refine (putS_old (hS.get 0 rfl) (i := 0) (k := 5) rfl { data := #[99] }).mono ?_
  rintro e w5 ⟨rfl, hT⟩
  obtain ⟨v5, hS⟩ := hS.turn 0 rfl hT
  simp only [List.set_cons_zero, List.cons_append, List.nil_append] at hS
  clear hT
  go_wp2_with fail
  refine (putS_full (hS.get 0 rfl) (k := 9) (wfi (by omega) (by omega)) (by simp) (by simp) { data := #[100] }).mono ?_
  rintro e w6 ⟨rfl, hT⟩
  have hS := hS.calm hT
  clear hT
  go_wp2_with fail
  refine (getS_at (hS.get 0 rfl) (i := 0) (k := 5) rfl).mono ?_
  rintro e w7 ⟨rfl, hT⟩
  have hS := hS.calm hT
  clear hT
  go_wp2_with fail
  refine (atS_ok (hS.get 0 rfl) (i := 0) rfl ⟨5, rfl, wfi (by omega) (by omega)⟩).mono ?_
  rintro e w8 ⟨rfl, hT⟩
  have hS := hS.calm hT
  clear hT
  go_wp2_with fail
  refine (lenS_any (hS.get 0 rfl)).mono ?_
  rintro e w9 ⟨rfl, rfl⟩
  have hK := hS.same
  clear hS
  go_wp2
  go_ret
  exact ⟨rfl, hK⟩
end Go.Proofs.Ytoejhbecogmdbaa
