/- Package dict: put, done. Package dict: inOrder. Package dict: Do. -/
import Derived.Test.YtbpilhjomfkpaaaGreatDoorDiC
import Derived.Test.YtbpilhjomfkpaaaGreatDoorSo
namespace Go.Proofs.YtbpilhjomfkpaaaGreatDoor
open Go.RowKit
set_option linter.unusedVariables false
set_option linter.unusedSimpArgs false
attribute [local go_sem ↓] Go.wp_at_zero Go.wp_at_succ

theorem perm_at {ls l : List Pr} (hp : ls.Perm l) (hg : Good ls) (x : Int) : atP ls x = atP l x := by
  have hg2 := hg.perm hp
  cases e : atP l x with
  | none => exact atP_of_none (fun p hpm => atP_none e p (hp.mem_iff.1 hpm))
  | some v => exact atP_of_mem hg.1 (hp.mem_iff.2 (atP_some e))
theorem buildX2 (W : World) (x y : Int) : (Instr.buildSlice 24 2 #[(0, .int .i64 x), (1, .int .i64 y)]).run Tryz.prog W = .ok (.slice (some ⟨W.heap.size, 0, none⟩) 2 2) (W.alloc (.cells #[.int .i64 x, .int .i64 y] 2)) := by kernel_rfl
theorem one_own {o w : World} {R : List It} (h : St o R w) (x : Int) : St o (ownI 2 1 (.slice (some ⟨w.heap.size, 0, none⟩) 1 1) 1 (xC [x]) :: R) (w.alloc (.cells #[.int .i64 x] 2)) := by
  have := h.new64 [x] (by simp [maxLen])
  simpa [xC] using this
theorem two_own {o w : World} {R : List It} (h : St o R w) (x y : Int) : St o (ownI 2 1 (.slice (some ⟨w.heap.size, 0, none⟩) 2 2) 2 (xC [x, y]) :: R) (w.alloc (.cells #[.int .i64 x, .int .i64 y] 2)) := by
  have := h.new64 [x, y] (by simp [maxLen])
  simpa [xC] using this
/-- What a deed leaves in the map, and tells. -/
def TellE (o : World) (R : List It) (b : Nat) (after : List Pr) (told : List Int) (e : Ending) (w' : World) : Prop :=
  ∃ t ls, e = .returned t ∧ ls.Perm after ∧ St o (ownI 2 1 t told.length (xC told) :: mapV b ls :: R) w'
theorem TellE.less {o : World} {R : List It} {B : It} {b : Nat} {after : List Pr} {told : List Int} {e : Ending} {w' : World} (h : TellE o (B :: R) b after told e w') : TellE o R b after told e w' := by
  obtain ⟨t, ls, he, hp, s⟩ := h
  refine ⟨t, ls, he, hp, ?_⟩
  exact (St.perm (its' := B :: ownI _ _ _ _ _ :: mapV b ls :: R) s (perm_in B [_, _] R).symm).pop
section
variable {o w : World} {R : List It} {b : Nat} {ls l : List Pr}
set_option maxRecDepth 100000 in
set_option maxHeartbeats 4000000 in
theorem put_any (h : St o (mapV b ls :: R) w) (hp : ls.Perm l) (n op a c x y : Int) (hx : -9223372036854775808 ≤ x ∧ x ≤ 9223372036854775807) :
    Calls Tryz.prog 65 #[.map (some b), .int .i64 n, .agg #[.int .i64 op, .int .i64 a, .int .i64 c, .int .i64 x, .int .i64 y]] w (TellE o R b (doS l n ⟨1, a, c, x, y⟩).1 (doS l n ⟨1, a, c, x, y⟩).2) := by
  have hg := mapGood h
  have hat := perm_at hp hg x
  have hln : ls.length = l.length := hp.length_eq
  have s1 := (h.box #[.int .i64 op, .int .i64 a, .int .i64 c, .int .i64 x, .int .i64 y] 45).perm (List.Perm.swap _ _ _)
  unfold doS
  simp only [Int.reduceEq, ↓reduceIte]
  generalize hw1 : w.alloc (.cells #[.int .i64 op, .int .i64 a, .int .i64 c, .int .i64 x, .int .i64 y] 45) = w1 at *
  generalize hM : w.heap.size = M at *
  have c3 : w1.cell? ⟨M, 3, none⟩ = some (.int .i64 x) := s1.cell 1 rfl 3
  have c4 : w1.cell? ⟨M, 4, none⟩ = some (.int .i64 y) := s1.cell 1 rfl 4
  have hb := fun W x => buildX1 W x
  cases hl : atP l x with
  | some v =>
    rw [hl] at hat
    simp only
    have hlk := lookV_some (P := Tryz.prog) (t := 78) (s1.get 0 rfl) Tryz.underlying2 Tryz.underlying78 (atP_some hat)
    obtain ⟨w2, hup, -, s2⟩ := storeV_old (P := Tryz.prog) (t := 78) (v := y) s1 Tryz.underlying2 Tryz.underlying78 (atP_some hat)
    have HQ : Hid (TellE o R b (turnP l x y) [0] (.returned (.slice (some ⟨w2.heap.size, 0, none⟩) 1 1)) (w2.alloc (.cells #[.int .i64 0] 2))) := hid (TellE.less ⟨_, _, rfl, hp.map _, one_own s2 0⟩)
    generalize TellE o R b (turnP l x y) [0] = Q at *
    clear h s1 hg hat hl hp s2
    go_enter Tryz.func65, Tryz.ntmps65
    go_wp2_with (first | simp only [hw1, hM] | simp only [hlk] | simp only [hup] | simp only [hb])
    exact HQ.out
  | none =>
    rw [hl] at hat
    simp only
    have hlk := lookV_none (P := Tryz.prog) (t := 78) (s1.get 0 rfl) Tryz.underlying2 Tryz.underlying78 (Tryz.zeroValue2 w1) hx (atP_none hat)
    have hle := fun ty => lenV (P := Tryz.prog) (t := 78) (s1.get 0 rfl) Tryz.underlying78 ty
    by_cases hn : (l.length : Int) = n
    · rw [if_pos hn]
      have HQ : Hid (TellE o R b l [2] (.returned (.slice (some ⟨w1.heap.size, 0, none⟩) 1 1)) (w1.alloc (.cells #[.int .i64 2] 2))) := hid (TellE.less ⟨_, _, rfl, hp, one_own s1 2⟩)
      have t1 : (((ls.length : Nat) : Int) == n) = true := by simp; omega
      generalize ((ls.length : Nat) : Int) = lz at *
      generalize TellE o R b l [2] = Q at *
      clear h s1 hg hat hl hp hn hln
      go_enter Tryz.func65, Tryz.ntmps65
      go_wp2_with (first | simp only [hw1, hM] | simp only [hlk] | simp only [hle] | simp only [hb])
      exact HQ.out
    · rw [if_neg hn]
      obtain ⟨w2, hup, -, s2⟩ := storeV_new (P := Tryz.prog) (t := 78) (v := y) s1 Tryz.underlying2 Tryz.underlying78 hx (atP_none hat)
      have HQ : Hid (TellE o R b (insP (x, y) l) [1] (.returned (.slice (some ⟨w2.heap.size, 0, none⟩) 1 1)) (w2.alloc (.cells #[.int .i64 1] 2))) := hid (TellE.less ⟨_, _, rfl, (hp.cons _).trans (insP_perm _ _).symm, one_own s2 1⟩)
      have t1 : (((ls.length : Nat) : Int) == n) = false := by simp; omega
      generalize ((ls.length : Nat) : Int) = lz at *
      generalize TellE o R b (insP (x, y) l) [1] = Q at *
      clear h s1 hg hat hl hp hn hln s2
      go_enter Tryz.func65, Tryz.ntmps65
      go_wp2_with (first | simp only [hw1, hM] | simp only [hlk] | simp only [hle] | simp only [hup] | simp only [hb])
      exact HQ.out
set_option maxRecDepth 100000 in
set_option maxHeartbeats 8000000 in
theorem done_any (h : St o (mapV b ls :: R) w) (hp : ls.Perm l) (n : Int) (d : Dd) (hm : mayS d = true) (hx : -9223372036854775808 ≤ d.x ∧ d.x ≤ 9223372036854775807) :
    Calls Tryz.prog 42 #[.map (some b), .int .i64 n, d.val] w (TellE o R b (doS l n d).1 (doS l n d).2) := by
  obtain ⟨op, a, c, x, y⟩ := d
  simp only at hx
  have hop := may_op hm
  simp only at hop
  have hg := mapGood h
  have hat := perm_at hp hg x
  have hln : ls.length = l.length := hp.length_eq
  have s1 := (h.box #[.int .i64 op, .int .i64 a, .int .i64 c, .int .i64 x, .int .i64 y] 45).perm (List.Perm.swap _ _ _)
  show Calls _ _ #[_, _, .agg #[.int .i64 op, .int .i64 a, .int .i64 c, .int .i64 x, .int .i64 y]] _ _
  generalize hw1 : w.alloc (.cells #[.int .i64 op, .int .i64 a, .int .i64 c, .int .i64 x, .int .i64 y] 45) = w1 at *
  generalize hM : w.heap.size = M at *
  have c0 : w1.cell? ⟨M, 0, none⟩ = some (.int .i64 op) := s1.cell 1 rfl 0
  have c1 : w1.cell? ⟨M, 1, none⟩ = some (.int .i64 a) := s1.cell 1 rfl 1
  have c2 : w1.cell? ⟨M, 2, none⟩ = some (.int .i64 c) := s1.cell 1 rfl 2
  have c3 : w1.cell? ⟨M, 3, none⟩ = some (.int .i64 x) := s1.cell 1 rfl 3
  have c4 : w1.cell? ⟨M, 4, none⟩ = some (.int .i64 y) := s1.cell 1 rfl 4
  have hb := fun W x => buildX1 W x
  have hb2 := fun W x y => buildX2 W x y
  have hle := fun ty => lenV (P := Tryz.prog) (t := 78) (s1.get 0 rfl) Tryz.underlying78 ty
  have hpt := put_any s1 hp n op a c x y hx
  have HPT : Hid (∀ e w', TellE o (boxI M #[.int .i64 op, .int .i64 a, .int .i64 c, .int .i64 x, .int .i64 y] 45 :: R) b (doS l n ⟨1, a, c, x, y⟩).1 (doS l n ⟨1, a, c, x, y⟩).2 e w' → ∃ t, e = .returned t ∧ TellE o R b (doS l n ⟨1, a, c, x, y⟩).1 (doS l n ⟨1, a, c, x, y⟩).2 (.returned t) w') := hid (fun e w' hl => by
    obtain ⟨t, ls2, he, r⟩ := id hl
    exact ⟨t, he, by rw [← he]; exact hl.less⟩)
  have hlk : ∃ v0 th, (Instr.lookup 78 (.map (some b)) (.int .i64 x) true).run Tryz.prog w1 = .ok (.tuple #[.int .i64 v0, .bool th]) w1 ∧ ((th = true ∧ atP l x = some v0) ∨ (th = false ∧ atP l x = none)) := by
    cases hl : atP l x with
    | some v =>
      rw [hl] at hat
      exact ⟨v, true, lookV_some (s1.get 0 rfl) Tryz.underlying2 Tryz.underlying78 (atP_some hat), .inl ⟨rfl, rfl⟩⟩
    | none =>
      rw [hl] at hat
      exact ⟨0, false, lookV_none (s1.get 0 rfl) Tryz.underlying2 Tryz.underlying78 (Tryz.zeroValue2 w1) hx (atP_none hat), .inr ⟨rfl, rfl⟩⟩
  obtain ⟨v0, th, hlk, hth⟩ := hlk
  by_cases h5 : op = 5
  · subst h5
    have HQ : Hid (TellE o R b (doS l n ⟨5, a, c, x, y⟩).1 (doS l n ⟨5, a, c, x, y⟩).2 (.returned (.slice (some ⟨w1.heap.size, 0, none⟩) 1 1)) (w1.alloc (.cells #[.int .i64 (ls.length : Nat)] 2))) := hid (TellE.less ⟨_, _, rfl, hp, by rw [hln]; exact one_own s1 _⟩)
    generalize TellE o R b (doS l n ⟨5, a, c, x, y⟩).1 (doS l n ⟨5, a, c, x, y⟩).2 = Q at *
    generalize ((ls.length : Nat) : Int) = lz at *
    have hlz := hid hln
    clear h s1 hg hat hp hpt HPT hln hth hop hm
    go_enter Tryz.func42, Tryz.ntmps42
    go_wp2_with (first | simp only [hw1, hM] | simp only [hlk] | simp only [hle] | simp only [hb])
    exact HQ.out
  · have t5 : (op == 5) = false := by simpa using h5
    by_cases h1 : op = 1
    · subst h1
      generalize TellE o (boxI M #[.int .i64 1, .int .i64 a, .int .i64 c, .int .i64 x, .int .i64 y] 45 :: R) b (doS l n ⟨1, a, c, x, y⟩).1 (doS l n ⟨1, a, c, x, y⟩).2 = Q1 at *
      generalize TellE o R b (doS l n ⟨1, a, c, x, y⟩).1 (doS l n ⟨1, a, c, x, y⟩).2 = Q at *
      clear h s1 hg hat hp hln hth hop hm h5 hle
      go_enter Tryz.func42, Tryz.ntmps42
      go_wp2_with (first | simp only [hw1, hM] | simp only [hlk] | (go_at_call 65; refine hpt.mono ?_; intro e w2 s2; obtain ⟨t2, rfl, hQ2⟩ := HPT.out e w2 s2; have HQ2 := hid hQ2; clear hQ2 s2))
      exact HQ2.out
    · have t1 : (op == 1) = false := by simpa using h1
      clear hpt HPT hle
      rcases hth with ⟨rfl, hl⟩ | ⟨rfl, hl⟩
      · rw [hl] at hat
        by_cases h3 : op = 3
        · subst h3
          obtain ⟨w2, hdl, -, s2⟩ := dropV (P := Tryz.prog) (t := 78) s1 Tryz.underlying2 Tryz.underlying78 (atP_some hat)
          have e1 : doS l n ⟨3, a, c, x, y⟩ = (lackP l x, [1]) := by unfold doS; simp [hl]
          rw [e1]
          have HQ : Hid (TellE o R b (lackP l x) [1] (.returned (.slice (some ⟨w2.heap.size, 0, none⟩) 1 1)) (w2.alloc (.cells #[.int .i64 1] 2))) := hid (TellE.less ⟨_, _, rfl, hp.filter _, one_own s2 1⟩)
          generalize TellE o R b (lackP l x) [1] = Q at *
          clear h s1 hg hat hp hln hop hm h5 h1 e1 hl s2
          go_enter Tryz.func42, Tryz.ntmps42
          go_wp2_with (first | simp only [hw1, hM] | simp only [hlk] | simp only [hdl] | simp only [hb])
          exact HQ.out
        · have t3 : (op == 3) = false := by simpa using h3
          by_cases h4 : op = 4
          · subst h4
            obtain ⟨w2, hup, -, s2⟩ := storeV_old (P := Tryz.prog) (t := 78) (v := wrap64 (v0 + y)) s1 Tryz.underlying2 Tryz.underlying78 (atP_some hat)
            have e1 : doS l n ⟨4, a, c, x, y⟩ = (turnP l x (wrap64 (v0 + y)), [1, wrap64 (v0 + y)]) := by unfold doS; simp [hl]
            rw [e1]
            have HQ : Hid (TellE o R b (turnP l x (wrap64 (v0 + y))) [1, wrap64 (v0 + y)] (.returned (.slice (some ⟨w2.heap.size, 0, none⟩) 2 2)) (w2.alloc (.cells #[.int .i64 1, .int .i64 (wrap64 (v0 + y))] 2))) := hid (TellE.less ⟨_, _, rfl, hp.map _, two_own s2 1 _⟩)
            generalize TellE o R b (turnP l x (wrap64 (v0 + y))) [1, wrap64 (v0 + y)] = Q at *
            clear h s1 hg hat hp hln hop hm h5 h1 h3 e1 hl s2
            go_enter Tryz.func42, Tryz.ntmps42
            go_wp2_with (first | simp only [hw1, hM] | simp only [hlk] | simp only [hup] | simp only [hb2])
            exact HQ.out
          · have t4 : (op == 4) = false := by simpa using h4
            have e1 : doS l n ⟨op, a, c, x, y⟩ = (l, [1, v0]) := by unfold doS; simp [hl, h5, h1, h3, h4]
            rw [e1]
            have HQ : Hid (TellE o R b l [1, v0] (.returned (.slice (some ⟨w1.heap.size, 0, none⟩) 2 2)) (w1.alloc (.cells #[.int .i64 1, .int .i64 v0] 2))) := hid (TellE.less ⟨_, _, rfl, hp, two_own s1 1 _⟩)
            generalize TellE o R b l [1, v0] = Q at *
            clear h s1 hg hat hp hln hop hm h5 h1 h3 h4 e1 hl
            go_enter Tryz.func42, Tryz.ntmps42
            go_wp2_with (first | simp only [hw1, hM] | simp only [hlk] | simp only [hb2])
            exact HQ.out
      · have e1 : doS l n ⟨op, a, c, x, y⟩ = (l, [0]) := by unfold doS; simp [hl, h5, h1]
        rw [e1]
        have HQ : Hid (TellE o R b l [0] (.returned (.slice (some ⟨w1.heap.size, 0, none⟩) 1 1)) (w1.alloc (.cells #[.int .i64 0] 2))) := hid (TellE.less ⟨_, _, rfl, hp, one_own s1 _⟩)
        generalize TellE o R b l [0] = Q at *
        clear h s1 hg hat hp hln hop hm h5 h1 e1 hl
        go_enter Tryz.func42, Tryz.ntmps42
        go_wp2_with (first | simp only [hw1, hM] | simp only [hlk] | simp only [hb])
        exact HQ.out
end
end Go.Proofs.YtbpilhjomfkpaaaGreatDoor

namespace Go.Proofs.YtbpilhjomfkpaaaGreatDoor
open Go.RowKit
set_option linter.unusedVariables false
set_option linter.unusedSimpArgs false
attribute [local go_sem ↓] Go.wp_at_zero Go.wp_at_succ

theorem makeEn (m : Nat) (hm : m ≤ 1000) (W : World) : (Instr.makeSlice 32 (.int .i64 0) (.int .i64 (m : Nat))).run Tryz.prog W = .ok (.slice (some ⟨W.heap.size, 0, none⟩) 0 m) (W.alloc (.cells (madeCells #[.int .i64 0, .int .i64 0] (m * 2)) 41)) := by
  obtain ⟨i0, hi0, hz0, hz1, hz2⟩ := info_parts Tryz.infoE
  have := run_make (P := Tryz.prog) W 32 41 i0 _ Tryz.underlying32 hi0 hz0 .i64 .i64 0 (m : Nat) (by omega) (by omega) (by rw [hz2]; omega) (by omega)
  rw [this, hz1]
  simp [Value.cells]
theorem made_st {o w : World} {R : List It} (h : St o R w) (m : Nat) (hm : m ≤ 1000) : St o (lstE (.slice (some ⟨w.heap.size, 0, none⟩) 0 m) [] :: R) (w.alloc (.cells (madeCells #[.int .i64 0, .int .i64 0] (m * 2)) 41)) :=
  h.own (kept_alloc w _) ⟨rfl, .inr ⟨w.heap.size, m, _, rfl, Nat.le_refl _, heap_alloc_new w _, Nat.zero_le _, by unfold maxLen; omega, size_madeCells _ _, by simp [eC]⟩⟩
theorem buildE1 (W : World) (x y : Int) : (Instr.buildSlice 32 1 #[(0, .agg #[.int .i64 x, .int .i64 y])]).run Tryz.prog W = .ok (.slice (some ⟨W.heap.size, 0, none⟩) 1 1) (W.alloc (.cells #[.int .i64 x, .int .i64 y] 41)) := by kernel_rfl
theorem own_some {o w : World} {R : List It} {v : Value} {es : List Pr} {g c m : Nat} (h : St o (lstE v es :: R) w) (hf : v.ownBlock ≠ none) : ∃ g cap, v = .slice (some ⟨g, 0, none⟩) es.length cap := by
  have p0 : w.ownsRow 0 41 2 v es.length (eC es) := h.get 0 rfl
  rcases p0.2 with ⟨rfl, _⟩ | ⟨g, cap, cur, rfl, _⟩
  · simp [Value.ownBlock] at hf
  · exact ⟨g, cap, rfl⟩
section
variable {o w : World} {R : List It} {b : Nat} {ls L : List Pr}
set_option maxRecDepth 100000 in
set_option maxHeartbeats 4000000 in
theorem inOrder_any (h : St o (mapV b ls :: R) w) (hL : Rises L) (hp : L.Perm ls) (hn : ls.length ≤ 1000) :
    Calls Tryz.prog 37 #[.map (some b)] w fun e w' => ∃ v, e = .returned v ∧ St o (lstE v L :: mapV b ls :: R) w' := by
  have hle := fun ty => lenV (P := Tryz.prog) (t := 78) (h.get 0 rfl) Tryz.underlying78 ty
  have hmk := makeEn ls.length hn w
  have s1 := (made_st h ls.length hn).perm (List.Perm.swap _ _ _)
  generalize hw1 : w.alloc (.cells (madeCells #[.int .i64 0, .int .i64 0] (ls.length * 2)) 41) = w1 at *
  generalize w.heap.size = g at *
  obtain ⟨w2, hrg, -, s2⟩ := rangeV (P := Tryz.prog) (t := 78) s1 Tryz.underlying78
  generalize w1.heap.size = r at *
  have HS := hid s2
  have HL := hid hL
  have HP := hid hp
  have HN := hid hn
  have hbe := fun W x y => buildE1 W x y
  generalize hm : ls.length = m at *
  have HM := hid hm
  clear h s1 s2 hL hp hn hm
  go_enter Tryz.func37, Tryz.ntmps37
  go_wp2_with (first | simp only [hle] | simp only [hmk, hw1] | simp only [hrg])
  go_loopw [3] (fun v wr => ∃ rest acc, St o (rngV b r ls rest :: lstE v acc :: R) wr ∧ (acc ++ rest).Perm ls ∧ v.ownBlock ≠ none) (fun _ wr => wr.rangeLeft b r)
  case atStart => exact ⟨ls, [], HS.out, List.Perm.refl _, by simp [Value.ownBlock]⟩
  case round =>
    obtain ⟨rest, acc, hs, hperm, hob⟩ := hrel
    have HMs := hid (rngLeft hs)
    go_wp2_with (at_next; refine wpList_nextV _ rfl _ rfl rfl hs ?_ ?_)
    · intro h0
      subst h0
      rw [List.append_nil] at hperm
      have s3 := (endV hs).perm (List.Perm.swap _ _ _)
      obtain ⟨g3, cap3, e3⟩ := own_some (g := 0) (c := 0) (m := 0) s3 hob
      have hlen := hperm.length_eq
      subst e3
      have hso := sort_any (R := mapV b ls :: R) (g := g3) (cap := cap3) (es := acc) (L := L) (w := wr) (o := o) s3 HL.out (HP.out.trans hperm.symm) (by have := HN.out; have := HM.out; omega)
      generalize acc.length = ac at *
      clear hs s3 hperm hob HS HP HL hlen
      go_wp2_with (go_at_call 62; refine hso.mono ?_; rintro e w4 ⟨rfl, s4⟩)
      go_ret
      exact ⟨_, rfl, s4⟩
    · intro k x rest' w3 hpr hmem hs3 hst hen
      have hlen : rest'.length < rest.length := by have := hpr.length_eq; simp at this; omega
      have HPe : Hid ((acc ++ [(k, x)] ++ rest').Perm ls) := hid (by
        rw [List.append_assoc]
        exact ((List.Perm.append_left acc hpr).symm).trans hperm)
      have hln := hperm.length_eq
      rw [List.length_append] at hln
      have hl2 : acc.length ≤ 1000 := by have := HN.out; have := HM.out; omega
      have s3 := hst.perm (List.Perm.swap _ _ _)
      have s4 := e_under s3 k x
      have e4 := ein_box s3 k x
      have HS4 := hid s4
      have HE4 := hid e4
      have HLn := hid hlen
      have HL2 := hid hl2
      clear s3 s4 e4 hst hs hperm hpr hmem hlen hln hl2 HS HP HL hob hs3
      go_wp2_with (first | simp only [hen] | simp only [hbe] | (at_builtin; refine wpList_appE_st HS4.out rfl _ _ rfl rfl _ _ _ rfl HE4.out (by simp) (by have := HL2.out; simp; omega) ?_; intro v5 w5 s5; have HS5 := hid s5; clear s5))
      go_roundw
      case rel =>
        have s6 := (e_drop1 HS5.out).perm (List.Perm.swap _ _ _)
        refine ⟨rest', acc ++ [(k, x)], s6, HPe.out, ?_⟩
        obtain ⟨g6, c6, e6⟩ := s6.form 1 rfl (by simp)
        rw [e6]
        simp [Value.ownBlock]
      case measure =>
        have s6 := (e_drop1 HS5.out).perm (List.Perm.swap _ _ _)
        rw [HMs.out, rngLeft s6]
        exact HLn.out
end
end Go.Proofs.YtbpilhjomfkpaaaGreatDoor

namespace Go.Proofs.YtbpilhjomfkpaaaGreatDoor
open Go.RowKit
set_option linter.unusedVariables false
set_option linter.unusedSimpArgs false
attribute [local go_sem ↓] Go.wp_at_zero Go.wp_at_succ

def Rg (x : Int) : Prop := -9223372036854775808 ≤ x ∧ x ≤ 9223372036854775807
def okS (l : List Pr) (n : Int) (d : Dd) : Bool := decide (0 < roomS n) && (decide ((l.length : Int) ≤ n) && (risesP l && mayS d))
/-- How Do ends. -/
def DoE (l : List Pr) (n : Int) (d : Dd) (w : World) (e : Ending) (w' : World) : Prop :=
  if okS l n d = true then ∃ v t, e = .returned (.tuple #[v, t, .int .i64 0]) ∧ St w [ownI 2 1 t (doS l n d).2.length (xC (doS l n d).2), lstE v (doS l n d).1] w'
  else e = .returned (.tuple #[.slice none 0 0, .slice none 0 0, .int .i64 190]) ∧ Kept (fun _ => False) w w'
theorem take_new {l : List Pr} (h : Rises l) {j : Nat} (hj : j < l.length) : ∀ p ∈ (l.take j).reverse, p.1 ≠ (l.getD j (0, 0)).1 := by
  intro p hp e
  rw [List.mem_reverse] at hp
  obtain ⟨i, hi, rfl⟩ := List.getElem_of_mem hp
  rw [List.length_take] at hi
  have := List.pairwise_iff_getElem.1 h i j (by omega) hj (by omega)
  rw [List.getElem_take, List.getD_eq_getElem?_getD, List.getElem?_eq_getElem hj] at e
  simp only [Option.getD_some] at e
  omega
theorem take_rev {l : List Pr} {j : Nat} (hj : j < l.length) : (l.take (j + 1)).reverse = l.getD j (0, 0) :: (l.take j).reverse := by
  rw [List.take_succ_eq_append_getElem hj, List.reverse_append, List.getD_eq_getElem?_getD, List.getElem?_eq_getElem hj]
  rfl
theorem doS_len (l : List Pr) (n : Int) (d : Dd) : (doS l n d).1.length ≤ l.length + 1 := by
  have h1 : ∀ x v, (turnP l x v).length = l.length := fun x v => by simp [turnP]
  have h2 : ∀ x, (lackP l x).length ≤ l.length := fun x => List.length_filter_le _ _
  have h3 : ∀ p, (insP p l).length = l.length + 1 := fun p => by rw [(insP_perm p l).length_eq]; simp
  unfold doS
  split
  · simp
  · split
    · split
      · rw [h1]; omega
      · split
        · have := h2 d.x; simp only; omega
        · split
          · rw [h1]; omega
          · simp
    · split
      · split
        · simp
        · rw [h3]; omega
      · simp
set_option maxRecDepth 100000 in
set_option maxHeartbeats 8000000 in
theorem Do_any {w : World} {n : Int} {d : Dd} {la : Option Addr} {m lc : Nat} {l : List Pr} (hX : EIn w la m l) (hm63 : m ≤ 4611686018427387904) (hk : ∀ p ∈ l, Rg p.1) (hx : Rg d.x) : Calls Tryz.prog 22 #[.slice la m lc, .int .i64 n, d.val] w (DoE l n d w) := by
  have hml := hX.1
  have hR := fun W => Room_any n W
  have hB := fun W => smay_any d W
  have hdn := fun (b : Nat) (ls : List Pr) (R : List It) (W : World) (h : St w (mapV b ls :: R) W) (hp : ls.Perm l) (hm : mayS d = true) => done_any h hp n d hm hx
  obtain ⟨op, a, b, x, y⟩ := d
  have s1 := (St.nil w).box #[.int .i64 op, .int .i64 a, .int .i64 b, .int .i64 x, .int .i64 y] 45
  have HN : Hid (okS l n ⟨op, a, b, x, y⟩ = false → ∀ w', Kept (fun _ => False) w w' → DoE l n ⟨op, a, b, x, y⟩ w (.returned (.tuple #[.slice none 0 0, .slice none 0 0, .int .i64 190])) w') := hid (fun h w' k => by
    unfold DoE
    rw [if_neg (by rw [h]; decide)]
    exact ⟨rfl, k⟩)
  have HY : Hid (okS l n ⟨op, a, b, x, y⟩ = true → ∀ v t w' B R, St w (lstE v (doS l n ⟨op, a, b, x, y⟩).1 :: B :: ownI 2 1 t (doS l n ⟨op, a, b, x, y⟩).2.length (xC (doS l n ⟨op, a, b, x, y⟩).2) :: R) w' → DoE l n ⟨op, a, b, x, y⟩ w (.returned (.tuple #[v, t, .int .i64 0])) w') := hid (fun h v t w' B R s => by
    unfold DoE
    rw [if_pos h]
    refine ⟨v, t, rfl, ?_⟩
    have s2 : St w (lstE v (doS l n ⟨op, a, b, x, y⟩).1 :: ownI 2 1 t (doS l n ⟨op, a, b, x, y⟩).2.length (xC (doS l n ⟨op, a, b, x, y⟩).2) :: R) w' := (s.perm (List.Perm.swap _ _ _)).pop
    exact St.cut (A := [_, _]) (B := R) (s2.perm (List.Perm.swap _ _ _)))
  show Calls _ _ #[_, _, .agg #[.int .i64 op, .int .i64 a, .int .i64 b, .int .i64 x, .int .i64 y]] _ _
  have hB1 : ∀ W, Calls Tryz.prog 41 #[.agg #[.int .i64 op, .int .i64 a, .int .i64 b, .int .i64 x, .int .i64 y]] W fun e w' => e = .returned (.bool (mayS ⟨op, a, b, x, y⟩)) ∧ Kept (fun _ => False) W w' := hB
  clear hB
  generalize hw1 : w.alloc (.cells #[.int .i64 op, .int .i64 a, .int .i64 b, .int .i64 x, .int .i64 y] 45) = w1 at *
  generalize hM : w.heap.size = M at *
  have HK := hid s1.same
  have hR1 := hR w1
  clear hR
  by_cases h0 : 0 < roomS n
  · obtain ⟨hn1, hn2, hn3⟩ := roomS_pos h0
    rw [hn3] at hR1
    have t0 : ((1 + 3 * n) == 0) = false := by simp; omega
    by_cases h1 : (l.length : Int) ≤ n
    · have t1 : decide (n < (m : Int)) = false := by simp; omega
      have hri := rise_any la m lc l w1 (hX.kept HK.out) hm63
      have HS2 : Hid (∀ w2, Kept (fun _ => False) w1 w2 → St w [boxI M #[.int .i64 op, .int .i64 a, .int .i64 b, .int .i64 x, .int .i64 y] 45] w2) := hid (fun w2 k => s1.calm k)
      cases hr : risesP l with
      | false =>
        have hno := HN.out (by unfold okS; rw [hr]; simp)
        rw [hr] at hri
        generalize DoE l n ⟨op, a, b, x, y⟩ w = Q at *
        have HN2 := hid hno
        clear HN HY hdn hno s1 hX hml h0 hn3 h1 hr HS2 hk hx hB1
        go_enter Tryz.func22, Tryz.ntmps22
        go_wp2_with (first | simp only [hw1, hM] | (go_at_call 10; refine hR1.mono ?_; rintro e w1 ⟨rfl, rfl⟩) | (go_at_call 40; refine hri.mono ?_; rintro e w2 ⟨rfl, k2⟩))
        go_ret3
        exact HN2.out _ (HK.out.trans k2 (fun _ _ f => f))
      | true =>
        rw [hr] at hri
        have hrs := (rises_iff l).1 hr
        have HC : Hid (∀ W its, St w its W → boxI M #[.int .i64 op, .int .i64 a, .int .i64 b, .int .i64 x, .int .i64 y] 45 ∈ its → W.cell? ⟨M, 0, none⟩ = some (.int .i64 op) ∧ W.cell? ⟨M, 1, none⟩ = some (.int .i64 a) ∧ W.cell? ⟨M, 2, none⟩ = some (.int .i64 b) ∧ W.cell? ⟨M, 3, none⟩ = some (.int .i64 x) ∧ W.cell? ⟨M, 4, none⟩ = some (.int .i64 y)) := hid (fun W its hs hmem => by
          obtain ⟨i, hi, e⟩ := List.getElem_of_mem hmem
          have hi' : its[i]? = some (boxI M #[.int .i64 op, .int .i64 a, .int .i64 b, .int .i64 x, .int .i64 y] 45) := by rw [List.getElem?_eq_getElem hi, e]
          exact ⟨hs.cell i hi' 0, hs.cell i hi' 1, hs.cell i hi' 2, hs.cell i hi' 3, hs.cell i hi' 4⟩)
        have HB := hid hB1
        cases hmy : mayS ⟨op, a, b, x, y⟩ with
        | false =>
          have hno := HN.out (by unfold okS; rw [hmy]; simp)
          rw [hmy] at HB
          generalize DoE l n ⟨op, a, b, x, y⟩ w = Q at *
          have HN2 := hid hno
          clear HN HY hdn hno s1 hX hml h0 hn3 h1 hr hk hx hmy hB1 hrs
          go_enter Tryz.func22, Tryz.ntmps22
          go_wp2_with (first | simp only [hw1, hM] | (go_at_call 10; refine hR1.mono ?_; rintro e w1 ⟨rfl, rfl⟩) | (go_at_call 40; refine hri.mono ?_; rintro e w2 ⟨rfl, k2⟩; obtain ⟨d0, d1, d2, d3, d4⟩ := HC.out w2 _ (HS2.out w2 k2) (by simp); have hB2 := HB.out w2) | (go_at_call 41; refine hB2.mono ?_; rintro e w3 ⟨rfl, k3⟩))
          go_ret3
          exact HN2.out _ (HK.out.trans (k2.trans k3 (fun _ _ f => f)) (fun _ _ f => f))
        | true =>
          have hyes := hid (HY.out (by unfold okS; rw [hr, hmy]; simp [h0, h1]))
          have HD := hid (fun (b0 : Nat) (ls : List Pr) (R : List It) (W : World) (h : St w (mapV b0 ls :: R) W) (hp : ls.Perm l) => hdn b0 ls R W h hp hmy)
          rw [hmy] at HB
          have hdr := hid (doS_rises hrs n ⟨op, a, b, x, y⟩)
          have hdl : Hid ((doS l n ⟨op, a, b, x, y⟩).1.length ≤ 1000) := hid (by have := doS_len l n ⟨op, a, b, x, y⟩; omega)
          generalize DoE l n ⟨op, a, b, x, y⟩ w = Q at *
          have HX := hid hX
          have HRs := hid hrs
          have HKk := hid hk
          have hmm := @run_makeMap Tryz.prog
          have hm6 : (m : Int) ≤ 60 := by omega
          have HLn := hid hml
          clear HN HY hdn s1 hX h0 hn3 h1 hr hk hx hmy hB1 hrs hml
          go_enter Tryz.func22, Tryz.ntmps22
          go_wp2_with (first | simp only [hw1, hM] | (go_at_call 10; refine hR1.mono ?_; rintro e w1 ⟨rfl, rfl⟩) | (go_at_call 40; refine hri.mono ?_; rintro e w2 ⟨rfl, k2⟩; obtain ⟨d0, d1, d2, d3, d4⟩ := HC.out w2 _ (HS2.out w2 k2) (by simp); have hB2 := HB.out w2) | (go_at_call 41; refine hB2.mono ?_; rintro e w3 ⟨rfl, k3⟩))
          generalize hW3 : w3.alloc (.map #[] 0) = w4
          have s4 := (HS2.out w3 (k2.trans k3 (fun _ _ f => f))).newMap
          rw [hW3] at s4
          generalize w3.heap.size = B at *
          have HS4 := hid s4
          clear s4 hW3 k2 k3 d0 d1 d2 d3 d4 hB2 hri hR1 HB
          go_loopw [35] (fun i wr => ∃ j : Nat, i = .int .i64 j ∧ j ≤ m ∧ St w [mapV B (l.take j).reverse, boxI M #[.int .i64 op, .int .i64 a, .int .i64 b, .int .i64 x, .int .i64 y] 45] wr) (fun i _ => m - (intOf i).toNat)
          case atStart => exact ⟨0, rfl, Nat.zero_le _, HS4.out⟩
          case round =>
            obtain ⟨j, rfl, hj, hs⟩ := hrel
            by_cases hlt : j < m
            · have hjl : j < l.length := by rw [← HLn.out]; exact hlt
              obtain ⟨g, o, rfl⟩ := HX.out.addr (by omega)
              obtain ⟨e0, e1⟩ := (HX.out.kept hs.same).cells (j := j) hlt
              have hrg := HKk.out (l.getD j (0, 0)) (by rw [List.getD_eq_getElem?_getD, List.getElem?_eq_getElem hjl]; exact List.getElem_mem _)
              have hnew := take_new HRs.out hjl
              have htr := take_rev hjl
              have s5 := hs.box #[.int .i64 (l.getD j (0, 0)).1, .int .i64 (l.getD j (0, 0)).2] 41
              have HT := hid htr
              clear htr
              generalize l.getD j (0, 0) = kv at *
              obtain ⟨ky, vl⟩ := kv
              simp only at e0 e1 hrg hnew s5
              generalize hw5 : wr.alloc (.cells #[.int .i64 ky, .int .i64 vl] 41) = w5 at *
              generalize hN5 : wr.heap.size = N5 at *
              have s5' := s5.perm (List.Perm.swap _ _ _)
              have g0 : w5.cell? ⟨N5, 0, none⟩ = some (.int .i64 ky) := s5'.cell 1 rfl 0
              have g1 : w5.cell? ⟨N5, 1, none⟩ = some (.int .i64 vl) := s5'.cell 1 rfl 1
              obtain ⟨w6, hup, -, s6⟩ := storeV_new (P := Tryz.prog) (t := 78) (v := vl) s5' Tryz.underlying2 Tryz.underlying78 hrg hnew
              have HS6 := hid (e_drop1 s6)
              have t2 : (j : Int) < (m : Int) := by omega
              have t3 : (0 : Int) ≤ (j : Int) := by omega
              have HJ := hid hlt
              clear hs s5 s5' s6 hnew hrg HS4 hjl hlt hj
              go_wp2_with (first | simp only [hw5, hN5] | simp only [hup])
              go_roundw
              case rel => exact ⟨j + 1, by push_cast; rfl, HJ.out, by rw [HT.out]; exact HS6.out⟩
              case measure => have := HJ.out; simp [intOf]; omega
            · obtain rfl : j = m := by omega
              have hta : l.take j = l := List.take_of_length_le (by rw [← HLn.out]; exact Nat.le_refl _)
              rw [hta] at hs
              obtain ⟨d0, d1, d2, d3, d4⟩ := HC.out wr _ hs (by simp)
              have hd := HD.out B _ _ wr hs (List.reverse_perm l)
              have HT : Hid (∀ e w5, TellE w [boxI M #[.int .i64 op, .int .i64 a, .int .i64 b, .int .i64 x, .int .i64 y] 45] B (doS l n ⟨op, a, b, x, y⟩).1 (doS l n ⟨op, a, b, x, y⟩).2 e w5 → ∃ t, e = .returned t ∧ Calls Tryz.prog 37 #[.map (some B)] w5 fun e' w' => ∃ v, e' = .returned v ∧ Q (.returned (.tuple #[v, t, .int .i64 0])) w') := hid (fun e w5 hh => by
                obtain ⟨t, ls, he, hpp, s⟩ := hh
                refine ⟨t, he, ?_⟩
                refine (inOrder_any (s.perm (List.Perm.swap _ _ _)) hdr.out hpp.symm (by rw [hpp.length_eq]; exact hdl.out)).mono ?_
                rintro e' w' ⟨v, rfl, s7⟩
                exact ⟨v, rfl, hyes.out v t w' _ _ s7⟩)
              generalize TellE w [boxI M #[.int .i64 op, .int .i64 a, .int .i64 b, .int .i64 x, .int .i64 y] 45] B (doS l n ⟨op, a, b, x, y⟩).1 (doS l n ⟨op, a, b, x, y⟩).2 = TE at *
              have hd2 : Calls Tryz.prog 42 #[.map (some B), .int .i64 n, .agg #[.int .i64 op, .int .i64 a, .int .i64 b, .int .i64 x, .int .i64 y]] wr TE := hd
              clear hs hd HD hta hyes
              go_wp2_with (first | (go_at_call 42; refine hd2.mono ?_; intro e w5 hte; obtain ⟨t5, rfl, hio⟩ := HT.out e w5 hte; clear hte) | (go_at_call 37; refine hio.mono ?_; rintro e w6 ⟨v6, rfl, hQ6⟩; have HQ6 := hid hQ6; clear hQ6))
              go_ret3
              exact HQ6.out
    · have t1 : decide (n < (m : Int)) = true := by simp; omega
      have hno := HN.out (by unfold okS; simp [h1])
      generalize DoE l n ⟨op, a, b, x, y⟩ w = Q at *
      have HN2 := hid hno
      clear HN HY hdn hno s1 hX hml h0 hn3 h1 hk hx hB1
      go_enter Tryz.func22, Tryz.ntmps22
      go_wp2_with (first | simp only [hw1, hM] | (go_at_call 10; refine hR1.mono ?_; rintro e w1 ⟨rfl, rfl⟩))
      go_ret3
      exact HN2.out _ HK.out
  · rw [roomS_zero h0] at hR1
    have hno := HN.out (by unfold okS; simp [h0])
    generalize DoE l n ⟨op, a, b, x, y⟩ w = Q at *
    have HN2 := hid hno
    clear HN HY hdn hno s1 hX hml h0 hk hx hB1
    go_enter Tryz.func22, Tryz.ntmps22
    go_wp2_with (first | simp only [hw1, hM] | (go_at_call 10; refine hR1.mono ?_; rintro e w1 ⟨rfl, rfl⟩))
    go_ret3
    exact HN2.out _ HK.out
end Go.Proofs.YtbpilhjomfkpaaaGreatDoor
