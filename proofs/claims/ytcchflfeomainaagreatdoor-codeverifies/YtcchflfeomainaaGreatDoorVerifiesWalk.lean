/- CodeVerifies, walked. -/
import Derived.Test.YtcchflfeomainaaGreatDoorRd
import Derived.Test.YtcchflfeomainaaGreatDoorUp
namespace Go.Proofs.YtcchflfeomainaaGreatDoor
open Go.RowKit
set_option linter.unusedVariables false
set_option linter.unusedSimpArgs false
attribute [local go_sem ↓] Go.wp_at_zero Go.wp_at_succ

set_option maxRecDepth 100000 in
set_option maxHeartbeats 2000000 in
theorem verifies_walk (la : Option Addr) (n lc : Nat) (l : List Ins) (w : World) (hE : Env w) (hC : Came w la n lc l) :
    Calls Tryz.prog 5 #[.slice la n lc] w fun e w' => e = .returned (.bool true) ∧ Kept (fun _ => False) w w' := by
  have hA := awake_any w hE
  have HC := hid hC
  have HE := hid hE
  have HN : Hid (n = l.length) := hC.1.1
  have hn : n ≤ 8796093021952 := by have := hC.2.1; have := hC.2.2.1; omega
  clear hC hE
  go_enter Tryz.func5, Tryz.ntmps5
  go_wp2_with fail
  refine hA.mono ?_
  clear hA
  rintro e w1 ⟨rfl, k1⟩
  have h1 := HC.out.kept k1
  go_wp2_with fail
  refine (lent_any w1 h1).mono ?_
  rintro e w2 ⟨g, cap, rfl, o2, k2⟩
  have h2 := h1.kept k2
  have hcap := (own_capV o2).1
  have c1 : (n : Int) ≤ (cap : Int) := by omega
  have c2 : (0 : Int) ≤ (n : Int) := Int.natCast_nonneg _
  have hck := Verify_any (some ⟨g, 0, none⟩) n cap l w2 (by rw [HN.out]; exact own_front o2 l marks rfl)
  have HP : Hid (∀ W, Came W la n lc l → Calls Tryz.prog 19 #[.slice la n lc] W fun e w' => e = .returned (.tuple #[.int .i64 (verifyM l).1, .int .i64 (verifyM l).2]) ∧ Kept (fun _ => False) W w') := fun W h => rVerify_any la n lc l W h.1
  generalize (verifyM l).1 = ce at *
  generalize (verifyM l).2 = cp at *
  go_wp2_with fail
  refine hck.mono ?_
  clear hck
  rintro e w3 ⟨rfl, k3⟩
  have h3 := h2.kept k3
  have hrc := HP.out w3 h3
  go_wp2_with fail
  refine hrc.mono ?_
  clear hrc HP
  rintro e w4 ⟨rfl, k4⟩
  have h4 := h3.kept k4
  go_wp2_with fail
  refine (lent_any w4 h4).mono ?_
  rintro e w5 ⟨g5, cap5, rfl, o5, k5⟩
  have e3 : n + 3 = (l ++ marks).length := by rw [HN.out]; simp [marks]
  have i2 : IIn w5 (some ⟨g, 0, none⟩) (n + 3) (l ++ marks) := by
    have := (own_front o2 (l ++ marks) [] (by simp)).kept ((k3.trans k4 (fun _ _ f => f)).trans k5 (fun _ _ f => f))
    rw [← e3] at this
    exact this
  have i5 : IIn w5 (some ⟨g5, 0, none⟩) (n + 3) (l ++ marks) := by
    have := own_front o5 (l ++ marks) [] (by simp)
    rw [← e3] at this
    exact this
  have hsm := same_any (some ⟨g, 0, none⟩) (some ⟨g5, 0, none⟩) (n + 3) (n + 3) cap cap5 (l ++ marks) (l ++ marks) w5 i2 i5 (by omega)
  rw [decide_eq_true rfl] at hsm
  have HK := hid ((((k1.trans k2 (fun _ _ f => f)).trans k3 (fun _ _ f => f)).trans k4 (fun _ _ f => f)).trans k5 (fun _ _ f => f))
  clear o2 o5 i2 i5 h1 h2 h3 h4 k1 k2 k3 k4 k5 e3 HN HC HE
  go_wp2_with fail
  refine hsm.mono ?_
  clear hsm
  rintro e w6 ⟨rfl, k6⟩
  have t1 : (cp == cp) = true := by simp
  have t3 : (ce == ce) = true := by simp
  have HK2 := hid (HK.out.trans k6 (fun _ _ f => f))
  clear HK k6
  go_wp2
  go_ret
  exact ⟨rfl, HK2.out⟩
end Go.Proofs.YtcchflfeomainaaGreatDoor
