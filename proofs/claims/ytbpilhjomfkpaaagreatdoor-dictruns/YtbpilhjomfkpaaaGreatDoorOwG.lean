/- Any step, and rows of steps, of the document's own machine. -/
import Derived.Test.YtbpilhjomfkpaaaGreatDoorOwC1
import Derived.Test.YtbpilhjomfkpaaaGreatDoorOwC3
import Derived.Test.YtbpilhjomfkpaaaGreatDoorOwC5
import Derived.Test.YtbpilhjomfkpaaaGreatDoorOwE
import Derived.Test.YtbpilhjomfkpaaaGreatDoorRnQ
namespace Go.Proofs.YtbpilhjomfkpaaaGreatDoor
open Go.RowKit
set_option linter.unusedVariables false
set_option linter.unusedSimpArgs false

theorem step_any {b w : World} {X : Nat} {V : OwV} {o : Ow} {R : List It} {la : Option Addr} {n lc : Nat} {l : List Ins} {p : Nat} {x : Ins} (h : OwAt b X V o R w) (hI : IIn w la n l) (hp : o.place = p) (hx : l[p]? = some x) (hf : o.fit x) (hn : n ≤ 400) :
    Calls Tryz.prog 30 #[.pointer (some ⟨X, 0, none⟩), .slice la n lc] w fun e w' => e = .returned (.tuple #[]) ∧ ∃ V', OwAt b X V' (o.go x) R w' := by
  obtain ⟨op, a⟩ := x
  obtain ⟨hm, f16, f18, f19, f21, f10, hop⟩ := hf
  have hpn : p < n := by rw [hI.1]; exact (List.getElem?_eq_some_iff.1 hx).1
  have hx' : l.getD p Ins.zero = ⟨op, a⟩ := by rw [List.getD_eq_getElem?_getD, hx]; rfl
  simp only at f16 f18 f19 f21 f10 hop
  rcases hop with rfl | rfl | rfl | rfl | rfl | rfl | rfl | rfl | rfl | rfl | rfl | rfl | rfl | rfl | rfl | rfl | rfl | rfl
  · exact step_1 h hI hp hpn hx' hm hn
  · exact step_3 h hI hp hpn hx' hm hn
  · exact step_5 h hI hp hpn hx' hm hn
  · exact step_6 h hI hp hpn hx' hm hn
  · exact step_7 h hI hp hpn hx' hm hn
  · exact step_8 h hI hp hpn hx' hm hn
  · exact step_9 h hI hp hpn hx' hm hn
  · obtain ⟨a1, a2, a3, a4⟩ := f10 rfl
    exact step_10 h hI hp hpn hx' hm hn a1 a2 a3 a4
  · exact step_11 h hI hp hpn hx' hm hn
  · exact step_12 h hI hp hpn hx' hm hn
  · exact step_13 h hI hp hpn hx' hm hn
  · exact step_14 h hI hp hpn hx' hm hn
  · exact step_15 h hI hp hpn hx' hm hn
  · exact step_16 h hI hp hpn hx' hm hn (f16 rfl)
  · exact step_17 h hI hp hpn hx' hm hn
  · exact step_18 h hI hp hpn hx' hm hn (f18 rfl)
  · exact step_19 h hI hp hpn hx' hm hn (f19 rfl).1 (f19 rfl).2
  · exact step_21 h hI hp hpn hx' hm hn (f21 rfl).1 (f21 rfl).2
/-- A row of steps, its first one. -/
theorem Ow.To.first {l : List Ins} {k : Nat} {o o' : Ow} (h : Ow.To l (k + 1) o o') : ∃ p x, o.place = (p : Nat) ∧ l[p]? = some x ∧ o.fit x ∧ Ow.To l k (o.go x) o' := by
  cases h with
  | step p x hp hx hf h => exact ⟨p, x, hp, hx, hf, h⟩
theorem Ow.To.none {l : List Ins} {o o' : Ow} (h : Ow.To l 0 o o') : o = o' := by
  cases h with
  | here => rfl
end Go.Proofs.YtbpilhjomfkpaaaGreatDoor
