/- The document's table of states: add. -/
import Derived.Test.YtcchflfeomainaaGreatDoorRa
namespace Go.Proofs.YtcchflfeomainaaGreatDoor
open Go.RowKit
set_option linter.unusedVariables false
set_option linter.unusedSimpArgs false
attribute [local go_sem ↓] Go.wp_at_zero Go.wp_at_succ

structure Bst where
  has : List Bool
  T : List Spt
def addB (y : Spt) (B : Bst) : Bst := if B.has.getD y.key true = true then B else ⟨B.has.set y.key true, B.T ++ [y]⟩
def iCells (T : List Spt) : List Value := T.map (fun x => .int .i64 (x.key : Nat))
theorem iCells_append (a : List Spt) (y : Spt) : iCells (a ++ [y]) = iCells a ++ [.int .i64 (y.key : Nat)] := by simp [iCells]
def tbL (k gh N : Nat) (vt : Value) (B : Bst) : List It := [boxI k #[.slice (some ⟨gh, 0, none⟩) N N, vt] 75, boxI gh (bCells B.has) 4, ownI 3 1 vt B.T.length (iCells B.T)]
theorem buildK (W : World) (a : Int) : (Instr.buildSlice 50 1 #[(0, .int .i64 a)]).run Tryz.prog W = .ok (.slice (some ⟨W.heap.size, 0, none⟩) 1 1) (W.alloc (.cells #[.int .i64 a] 3)) := by kernel_rfl
section
variable {o w : World} {vt : Value} {B : Bst} {R : List It} {k gh N n : Nat}
theorem int_form {n : Nat} {xs : List Value} {v : Value} (h : w.ownsRow 0 3 1 v n xs) : ∃ a c, v = .slice a n c := by
  rcases h.2 with ⟨h1, h2⟩ | ⟨g, cap, cur, h1, _⟩
  · exact ⟨none, 0, by rw [h1, h2]⟩
  · exact ⟨_, cap, h1⟩
set_option maxRecDepth 100000 in
set_option maxHeartbeats 1000000 in
theorem add_sr (h : St o (tbL k gh N vt B ++ R) w) (hN : B.has.length = N) (hNn : N = n * 33 * 34) (hn : n ≤ 401) (hT : B.T.length ≤ 449930) {y : Spt} (hy : Fine n y) :
    Calls Tryz.prog 33 #[.pointer (some ⟨k, 0, none⟩), .int .i64 y.p, .int .i64 y.s.d, .int .i64 y.s.bas] w fun e w' => e = .returned (.tuple #[]) ∧ ∃ vt', St o (tbL k gh N vt' (addB y B) ++ R) w' := by
  obtain ⟨i0, hi0, hz0, hz1, hz2⟩ := info_parts Tryz.infoI3
  have hq := rAt_any y.p y.s.d y.s.bas (by have := hy.1; omega) hy.2.1.1 (bas_le hy.2.1) w
  have hkl := key_lt hy
  have hke : ((y.p : Int) * 33 + y.s.d) * 34 + y.s.bas = (y.key : Int) := by unfold Spt.key; omega
  rw [hke] at hq
  have HE : Hid (addB y B = if B.has.getD y.key true = true then B else ⟨B.has.set y.key true, B.T ++ [y]⟩) := rfl
  have HIC := hid (iCells_append B.T y)
  have hkN : y.key < N := by omega
  generalize y.key = K at *
  generalize y.s.bas = yb at *
  generalize y.s.d = yd at *
  generalize y.p = yp at *
  have b1 : (0 : Int) ≤ (K : Int) := Int.natCast_nonneg _
  have b2 : (K : Int) < (N : Int) := by omega
  have c0 : w.cell? ⟨k, 0, none⟩ = some (.slice (some ⟨gh, 0, none⟩) N N) := h.cell 0 rfl 0
  have cs : w.cell? ⟨gh, K, none⟩ = some (.bool (B.has.getD K true)) := (h.cell 1 rfl _).trans (bCells_at _ _ (by omega))
  have f1 : w.frozen? ⟨gh, K, none⟩ = false := h.frozen 1 rfl _
  by_cases hsn : B.has.getD K true = true
  · have HE2 : Hid (addB y B = B) := by have := HE.out; rwa [if_pos hsn] at this
    rw [hsn] at cs
    have HS := hid h
    clear h HE hsn f1
    go_enter Tryz.func33, Tryz.ntmps33
    go_wp2_with fail
    refine hq.mono ?_
    clear hq
    rintro e w1 ⟨rfl, rfl⟩
    go_wp2_with fail
    first | go_end0 | refine bodyPost_ret (results_none rfl _ _ _) rfl ?_
    exact ⟨rfl, vt, by rw [HE2.out]; exact HS.out⟩
  · have HE2 : Hid (addB y B = ⟨B.has.set K true, B.T ++ [y]⟩) := by have := HE.out; rwa [if_neg hsn] at this
    rw [Bool.eq_false_iff.2 hsn] at cs
    have s2 := h.write 1 rfl K (.bool true)
    rw [bCells_set] at s2
    have HS2 := hid s2
    clear h HE hsn s2
    go_enter Tryz.func33, Tryz.ntmps33
    go_wp2_with fail
    refine hq.mono ?_
    clear hq
    rintro e w1 ⟨rfl, rfl⟩
    go_upto_region 3 with fail
    generalize w1.setCell ⟨gh, K, none⟩ (.bool true) = w2 at *
    have s2 := HS2.out
    have hown : w2.ownsRow 0 3 1 vt B.T.length (iCells B.T) := s2.get 2 rfl
    obtain ⟨va, vc, rfl⟩ := int_form hown
    have d1 : w2.cell? ⟨k, 1, none⟩ = some (.slice va B.T.length vc) := s2.cell 0 rfl 1
    have df : w2.frozen? ⟨k, 1, none⟩ = false := s2.frozen 0 rfl 1
    have hbs := buildK w2 K
    have HV : Hid (∀ g2 cap2 w1, w1.ownsRow 0 3 1 (.slice (some ⟨g2, 0, none⟩) (B.T.length + 1) cap2) (B.T.length + 1) (iCells B.T ++ [.int .i64 K]) → (w2.alloc (.cells #[.int .i64 K] 3)).grownBy w1 (Value.ownBlock (.slice va B.T.length vc)) → (Value.ownBlock (.slice va B.T.length vc) = some g2 ∨ g2 = w2.heap.size + 1) →
        St o (tbL k gh N (.slice (some ⟨g2, 0, none⟩) (B.T.length + 1) cap2) ⟨B.has.set K true, B.T ++ [y]⟩ ++ R) (w1.setCell ⟨k, 1, none⟩ (.slice (some ⟨g2, 0, none⟩) (B.T.length + 1) cap2)) ∧ w1.cell? ⟨k, 1, none⟩ = some (.slice va B.T.length vc) ∧ w1.frozen? ⟨k, 1, none⟩ = false) := by
      intro g2 cap2 w1 p1 p2 p3
      have a1 := s2.growAt 2 rfl p1 p2 p3
      refine ⟨?_, a1.cell 0 rfl 1, a1.frozen 0 rfl 1⟩
      have a2 := a1.write 0 rfl 1 (.slice (some ⟨g2, 0, none⟩) (B.T.length + 1) cap2)
      show St o (_ :: _ :: ownI _ _ _ (B.T ++ [y]).length (iCells (B.T ++ [y])) :: R) _
      rw [show (B.T ++ [y]).length = B.T.length + 1 by simp, HIC.out]
      exact a2
    clear s2 HS2 c0 cs f1
    generalize B.T.length = nv at *
    generalize iCells B.T = VC at *
    go_wp2_with (first | (at_builtin; refine wpList_append_lies _ rfl (.tmp 31) (.tmp 33) 50 rfl 0 3 i0 _ 1 8 Tryz.underlying50 hi0 hz0 hz1 hz2 rfl (by omega) (.slice va nv vc) nv VC rfl (hown.alloc _) ⟨w2.heap.size, 0, none⟩ 1 1 [.int .i64 K] rfl rfl (World.news_of_block (cs := #[.int .i64 K]) (t := 3) (fr := (0, 0)) (heap_alloc_new w2 _)) (by simp [Value.oneCell']) (by omega) (by unfold maxLen; omega) (by omega) (Nat.zero_le _) (w2.heap.size + 1) (by simp) ?_; intro g2 cap2 w8 ho8 hg8 ha8 hl8; obtain ⟨s8, e4, ef4⟩ := HV.out _ _ _ ho8 hg8 ha8; have H8 := hid s8; clear hg8 ha8 hl8 ho8 s8) | simp only [hbs])
    first | go_end0 | refine bodyPost_ret (results_none rfl _ _ _) rfl ?_
    exact ⟨rfl, _, by rw [HE2.out]; exact H8.out⟩
end
end Go.Proofs.YtcchflfeomainaaGreatDoor
