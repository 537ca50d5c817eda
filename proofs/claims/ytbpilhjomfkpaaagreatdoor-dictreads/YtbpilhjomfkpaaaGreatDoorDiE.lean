/- Package dict: inOrder. -/
import Derived.Test.YtbpilhjomfkpaaaGreatDoorSo
import Derived.Test.YtbpilhjomfkpaaaGreatDoorDiD
namespace Go.Proofs.YtbpilhjomfkpaaaGreatDoor
open Go.RowKit
set_option linter.unusedVariables false
set_option linter.unusedSimpArgs false
attribute [local go_sem ↓] Go.wp_at_zero Go.wp_at_succ

theorem makeEn (m : Nat) (hm : m ≤ 1000) (W : World) : (Instr.makeSlice 32 (.int .i64 0) (.int .i64 (m : Nat))).run Tryz.prog W = .ok (.slice (some ⟨W.heap.size, 0, none⟩) 0 m) (W.alloc (.cells (madeCells #[.int .i64 0, .int .i64 0] (m * 2)) 41)) := by
  obtain ⟨i0, hi0, hz0, hz1, hz2⟩ := info_parts Tryz.infoE
  have := run_make (P := Tryz.prog) W 32 41 i0 _ Tryz.underlying32 hi0 hz0 .i64 .i64 0 (m : Nat) (by omega) (by omega) (by rw [hz2]; omega) (by omega)
  rw [this, hz1]
  simp [Value.cells]
theorem made_st {o w : World} {R : List It} (h : St o R w) (m : Nat) (hm : m ≤ 1000) : St o (lstE (.slice (some ⟨w.heap.size, 0, none⟩) 0 m) [] :: R) (w.alloc (.cells (madeCells #[.int .i64 0, .int .i64 0] (m * 2)) 41)) :=
  h.own (kept_alloc w _) ⟨rfl, .inr ⟨w.heap.size, m, _, rfl, Nat.le_refl _, heap_alloc_new w _, Nat.zero_le _, by unfold maxLen; omega, size_madeCells _ _, by simp [eC]⟩⟩
theorem buildE1 (W : World) (x y : Int) : (Instr.buildSlice 32 1 #[(0, .agg #[.int .i64 x, .int .i64 y])]).run Tryz.prog W = .ok (.slice (some ⟨W.heap.size, 0, none⟩) 1 1) (W.alloc (.cells #[.int .i64 x, .int .i64 y] 41)) := by kernel_rfl
theorem own_some {o w : World} {R : List It} {v : Value} {es : List Pr} {g c m : Nat} (h : St o (lstE v es :: R) w) (hf : v.ownBlock ≠ none) : ∃ g cap, v = .slice (some ⟨g, 0, none⟩) es.length cap := by
  have p0 : w.ownsRow 0 41 2 v es.length (eC es) := h.get 0 rfl
  rcases p0.2 with ⟨rfl, _⟩ | ⟨g, cap, cur, rfl, _⟩
  · simp [Value.ownBlock] at hf
  · exact ⟨g, cap, rfl⟩
section
variable {o w : World} {R : List It} {b : Nat} {ls L : List Pr}
set_option maxRecDepth 100000 in
set_option maxHeartbeats 4000000 in
theorem inOrder_any (h : St o (mapV b ls :: R) w) (hL : Rises L) (hp : L.Perm ls) (hn : ls.length ≤ 1000) :
    Calls Tryz.prog 37 #[.map (some b)] w fun e w' => ∃ v, e = .returned v ∧ St o (lstE v L :: mapV b ls :: R) w' := by
  have hle := fun ty => lenV (P := Tryz.prog) (t := 78) (h.get 0 rfl) Tryz.underlying78 ty
  have hmk := makeEn ls.length hn w
  have s1 := (made_st h ls.length hn).perm (List.Perm.swap _ _ _)
  generalize hw1 : w.alloc (.cells (madeCells #[.int .i64 0, .int .i64 0] (ls.length * 2)) 41) = w1 at *
  generalize w.heap.size = g at *
  obtain ⟨w2, hrg, -, s2⟩ := rangeV (P := Tryz.prog) (t := 78) s1 Tryz.underlying78
  generalize w1.heap.size = r at *
  have HS := hid s2
  have HL := hid hL
  have HP := hid hp
  have HN := hid hn
  have hbe := fun W x y => buildE1 W x y
  generalize hm : ls.length = m at *
  have HM := hid hm
  clear h s1 s2 hL hp hn hm
  go_enter Tryz.func37, Tryz.ntmps37
  go_wp2_with (first | simp only [hle] | simp only [hmk, hw1] | simp only [hrg])
  go_loopw [3] (fun v wr => ∃ rest acc, St o (rngV b r ls rest :: lstE v acc :: R) wr ∧ (acc ++ rest).Perm ls ∧ v.ownBlock ≠ none) (fun _ wr => wr.rangeLeft b r)
  case atStart => exact ⟨ls, [], HS.out, List.Perm.refl _, by simp [Value.ownBlock]⟩
  case round =>
    obtain ⟨rest, acc, hs, hperm, hob⟩ := hrel
    have HMs := hid (rngLeft hs)
    go_wp2_with (at_next; refine wpList_nextV _ rfl _ rfl rfl hs ?_ ?_)
    · intro h0
      subst h0
      rw [List.append_nil] at hperm
      have s3 := (endV hs).perm (List.Perm.swap _ _ _)
      obtain ⟨g3, cap3, e3⟩ := own_some (g := 0) (c := 0) (m := 0) s3 hob
      have hlen := hperm.length_eq
      subst e3
      have hso := sort_any (R := mapV b ls :: R) (g := g3) (cap := cap3) (es := acc) (L := L) (w := wr) (o := o) s3 HL.out (HP.out.trans hperm.symm) (by have := HN.out; have := HM.out; omega)
      generalize acc.length = ac at *
      clear hs s3 hperm hob HS HP HL hlen
      go_wp2_with (go_at_call 62; refine hso.mono ?_; rintro e w4 ⟨rfl, s4⟩)
      go_ret
      exact ⟨_, rfl, s4⟩
    · intro k x rest' w3 hpr hmem hs3 hst hen
      have hlen : rest'.length < rest.length := by have := hpr.length_eq; simp at this; omega
      have HPe : Hid ((acc ++ [(k, x)] ++ rest').Perm ls) := hid (by
        rw [List.append_assoc]
        exact ((List.Perm.append_left acc hpr).symm).trans hperm)
      have hln := hperm.length_eq
      rw [List.length_append] at hln
      have hl2 : acc.length ≤ 1000 := by have := HN.out; have := HM.out; omega
      have s3 := hst.perm (List.Perm.swap _ _ _)
      have s4 := e_under s3 k x
      have e4 := ein_box s3 k x
      have HS4 := hid s4
      have HE4 := hid e4
      have HLn := hid hlen
      have HL2 := hid hl2
      clear s3 s4 e4 hst hs hperm hpr hmem hlen hln hl2 HS HP HL hob hs3
      go_wp2_with (first | simp only [hen] | simp only [hbe] | (at_builtin; refine wpList_appE_st HS4.out rfl _ _ rfl rfl _ _ _ rfl HE4.out (by simp) (by have := HL2.out; simp; omega) ?_; intro v5 w5 s5; have HS5 := hid s5; clear s5))
      go_roundw
      case rel =>
        have s6 := (e_drop1 HS5.out).perm (List.Perm.swap _ _ _)
        refine ⟨rest', acc ++ [(k, x)], s6, HPe.out, ?_⟩
        obtain ⟨g6, c6, e6⟩ := s6.form 1 rfl (by simp)
        rw [e6]
        simp [Value.ownBlock]
      case measure =>
        have s6 := (e_drop1 HS5.out).perm (List.Perm.swap _ _ _)
        rw [HMs.out, rngLeft s6]
        exact HLn.out
end
end Go.Proofs.YtbpilhjomfkpaaaGreatDoor
