/- The document's SameAll, of lists whose stories are the same. -/
import Derived.Test.YtkhbkdabihokjaaGp
namespace Go.Proofs.Ytkhbkdabihokjaa
open Go.RowKit Go.Shelf
set_option linter.unusedVariables false
set_option linter.unusedSimpArgs false
attribute [local go_sem ↓] Go.wp_at_zero Go.wp_at_succ

/-- The moves of each story lie in memory. -/
def MsIn (w : World) (L : List Sm) : Prop := ∀ (j : Nat) m, L[j]? = some m → RIn mC w m.la m.s.ms.length m.s.ms ∧ m.s.ms.length ≤ 2932031007317
theorem MsIn.kept {w w' : World} {L : List Sm} (h : MsIn w L) (k : Kept (fun _ => False) w w') : MsIn w' L := fun j m hm => ⟨(h j m hm).1.kept k, (h j m hm).2⟩
set_option maxRecDepth 100000 in
set_option maxHeartbeats 4000000 in
theorem sameAll_eq {w : World} {la lb : Option Addr} {n lc ld : Nat} {L M : List Sm} (h : L.map Sm.s = M.map Sm.s) (hL : RIn sC w la n L) (hM : RIn sC w lb n M) (mL : MsIn w L) (mM : MsIn w M) (hn : (n : Int) ≤ 1759218604398) :
    Calls Try.prog 12 #[.slice la n lc, .slice lb n ld] w fun e w' => e = .returned (.bool true) ∧ Kept (fun _ => False) w w' := by
  have HX := hid hL
  have HY := hid hM
  have HW : Hid (∀ (j : Nat), j < n → ∃ s ma mc mb md, L[j]? = some ⟨s, ma, mc⟩ ∧ M[j]? = some ⟨s, mb, md⟩ ∧ RIn mC w ma s.ms.length s.ms ∧ RIn mC w mb s.ms.length s.ms ∧ s.ms.length ≤ 2932031007317) := hid (fun j hj => by
    obtain ⟨⟨s, ma, mc⟩, hm⟩ : ∃ m, L[j]? = some m := ⟨_, List.getElem?_eq_getElem (by have := hL.1; omega)⟩
    have e : (M.map Sm.s)[j]? = some s := by rw [← h, List.getElem?_map, hm]; rfl
    rw [List.getElem?_map] at e
    obtain ⟨⟨s2, mb, md⟩, hm2, e2⟩ := Option.map_eq_some_iff.1 e
    simp only at e2
    subst e2
    exact ⟨_, ma, mc, mb, md, hm, hm2, (mL j _ hm).1, (mM j _ hm2).1, (mL j _ hm).2⟩)
  clear h hL hM mL mM
  go_enter Try.func12, Try.ntmps12
  go_upto_region 4 with fail
  go_loopw [5] (fun i wr => ∃ (j : Nat), i = .int .i64 j ∧ j ≤ n ∧ Kept (fun _ => False) w wr) (fun i _ => n - (intOf i).toNat)
  case atStart => exact ⟨0, rfl, Nat.zero_le _, Kept.refl _ _⟩
  case round =>
    obtain ⟨j, rfl, hj, hk⟩ := hrel
    by_cases hlt : j < n
    · have hlt' : (j : Int) < (n : Int) := by omega
      have hj0 : (0 : Int) ≤ (j : Int) := by omega
      obtain ⟨s, ma, mc, mb, md, hm, hm2, r1, r2, hms⟩ := HW.out j hlt
      obtain ⟨g, off, rfl⟩ := HX.out.addr (by omega)
      obtain ⟨g2, off2, rfl⟩ := HY.out.addr (by omega)
      have hD := hk.drew
      have CH : Hid (∀ W, Kept (fun _ => False) w W → W.cell? ⟨g, off + j * 10, none⟩ = some (.int .i64 s.th) ∧ W.cell? ⟨g, off + j * 10 + 1, none⟩ = some (.int .i64 s.sp) ∧ W.cell? ⟨g, off + j * 10 + 2, none⟩ = some (.int .i64 s.bg) ∧ W.cell? ⟨g, off + j * 10 + 3, none⟩ = some (.int .i64 s.en) ∧ W.cell? ⟨g, off + j * 10 + 4, none⟩ = some (.int .i64 s.ft) ∧ W.cell? ⟨g, off + j * 10 + 5, none⟩ = some (.int .i64 s.e) ∧ W.cell? ⟨g, off + j * 10 + 6, none⟩ = some (.int .i64 s.by_) ∧ W.cell? ⟨g, off + j * 10 + 7, none⟩ = some (.int .i64 s.op) ∧ W.cell? ⟨g, off + j * 10 + 8, none⟩ = some (.int .i64 s.ga) ∧ W.cell? ⟨g, off + j * 10 + 9, none⟩ = some (.slice ma s.ms.length mc) ∧ W.cell? ⟨g2, off2 + j * 10, none⟩ = some (.int .i64 s.th) ∧ W.cell? ⟨g2, off2 + j * 10 + 1, none⟩ = some (.int .i64 s.sp) ∧ W.cell? ⟨g2, off2 + j * 10 + 2, none⟩ = some (.int .i64 s.bg) ∧ W.cell? ⟨g2, off2 + j * 10 + 3, none⟩ = some (.int .i64 s.en) ∧ W.cell? ⟨g2, off2 + j * 10 + 4, none⟩ = some (.int .i64 s.ft) ∧ W.cell? ⟨g2, off2 + j * 10 + 5, none⟩ = some (.int .i64 s.e) ∧ W.cell? ⟨g2, off2 + j * 10 + 6, none⟩ = some (.int .i64 s.by_) ∧ W.cell? ⟨g2, off2 + j * 10 + 7, none⟩ = some (.int .i64 s.op) ∧ W.cell? ⟨g2, off2 + j * 10 + 8, none⟩ = some (.int .i64 s.ga) ∧ W.cell? ⟨g2, off2 + j * 10 + 9, none⟩ = some (.slice mb s.ms.length md) ∧ Kept (fun _ => False) w W) := hid (fun W h => by
        have q := fun i u hu => (HX.out.kept h).at (k := 10) sC_len hm i u hu
        have r := fun i u hu => (HY.out.kept h).at (k := 10) sC_len hm2 i u hu
        exact ⟨q 0 _ rfl, q 1 _ rfl, q 2 _ rfl, q 3 _ rfl, q 4 _ rfl, q 5 _ rfl, q 6 _ rfl, q 7 _ rfl, q 8 _ rfl, q 9 _ rfl, r 0 _ rfl, r 1 _ rfl, r 2 _ rfl, r 3 _ rfl, r 4 _ rfl, r 5 _ rfl, r 6 _ rfl, r 7 _ rfl, r 8 _ rfl, r 9 _ rfl, h⟩)
      have CS : Hid (∀ W, Kept (fun _ => False) w W → Calls Try.prog 28 #[syV ⟨s, ma, mc⟩, syV ⟨s, mb, md⟩] W fun e w' => e = .returned (.bool true) ∧ Kept (fun _ => False) w w') := hid (fun W h => by
        refine (same_eq s ma mb mc md (r1.kept h) (r2.kept h) hms).mono ?_
        rintro e w' ⟨rfl, kk⟩
        exact ⟨rfl, h.trans kk (fun _ _ f => f)⟩)
      have HJ : Hid (j + 1 ≤ n ∧ n - (j + 1) < n - j) := hid ⟨by omega, by omega⟩
      obtain ⟨c0, c1, c2, c3, c4, c5, c6, c7, c8, c9, d0, d1, d2, d3, d4, d5, d6, d7, d8, d9, _⟩ := CH.out _ hD
      clear r1 r2 hms hm hm2 hk HX HY HW hlt hj
      go_upto_region 6 with fail
      go_region_held3 (fun W => W.cell? ⟨g, off + j * 10, none⟩ = some (.int .i64 s.th) ∧ W.cell? ⟨g, off + j * 10 + 1, none⟩ = some (.int .i64 s.sp) ∧ W.cell? ⟨g, off + j * 10 + 2, none⟩ = some (.int .i64 s.bg) ∧ W.cell? ⟨g, off + j * 10 + 3, none⟩ = some (.int .i64 s.en) ∧ W.cell? ⟨g, off + j * 10 + 4, none⟩ = some (.int .i64 s.ft) ∧ W.cell? ⟨g, off + j * 10 + 5, none⟩ = some (.int .i64 s.e) ∧ W.cell? ⟨g, off + j * 10 + 6, none⟩ = some (.int .i64 s.by_) ∧ W.cell? ⟨g, off + j * 10 + 7, none⟩ = some (.int .i64 s.op) ∧ W.cell? ⟨g, off + j * 10 + 8, none⟩ = some (.int .i64 s.ga) ∧ W.cell? ⟨g, off + j * 10 + 9, none⟩ = some (.slice ma s.ms.length mc) ∧ W.cell? ⟨g2, off2 + j * 10, none⟩ = some (.int .i64 s.th) ∧ W.cell? ⟨g2, off2 + j * 10 + 1, none⟩ = some (.int .i64 s.sp) ∧ W.cell? ⟨g2, off2 + j * 10 + 2, none⟩ = some (.int .i64 s.bg) ∧ W.cell? ⟨g2, off2 + j * 10 + 3, none⟩ = some (.int .i64 s.en) ∧ W.cell? ⟨g2, off2 + j * 10 + 4, none⟩ = some (.int .i64 s.ft) ∧ W.cell? ⟨g2, off2 + j * 10 + 5, none⟩ = some (.int .i64 s.e) ∧ W.cell? ⟨g2, off2 + j * 10 + 6, none⟩ = some (.int .i64 s.by_) ∧ W.cell? ⟨g2, off2 + j * 10 + 7, none⟩ = some (.int .i64 s.op) ∧ W.cell? ⟨g2, off2 + j * 10 + 8, none⟩ = some (.int .i64 s.ga) ∧ W.cell? ⟨g2, off2 + j * 10 + 9, none⟩ = some (.slice mb s.ms.length md) ∧ Kept (fun _ => False) w W) (first | exact CH.out _ hD) (first | (go_at_call 28; refine (CS.out _ hD).mono ?_; rintro e wx ⟨rfl, hD⟩))
      go_wp2
      go_roundw
      case rel => exact ⟨j + 1, by simp, HJ.out.1, hD⟩
      case measure => have := HJ.out.2; simp [intOf]; omega
    · have hlt' : ¬ (j : Int) < (n : Int) := by omega
      have HR := hid hk
      clear HX HY HW hk
      go_wp2
      go_ret
      exact ⟨rfl, HR.out⟩
end Go.Proofs.Ytkhbkdabihokjaa
