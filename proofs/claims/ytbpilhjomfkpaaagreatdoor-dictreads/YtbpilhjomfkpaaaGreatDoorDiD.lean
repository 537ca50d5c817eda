/- Package dict: put, done. -/
import Derived.Test.YtbpilhjomfkpaaaGreatDoorDiC
namespace Go.Proofs.YtbpilhjomfkpaaaGreatDoor
open Go.RowKit
set_option linter.unusedVariables false
set_option linter.unusedSimpArgs false
attribute [local go_sem ↓] Go.wp_at_zero Go.wp_at_succ

theorem perm_at {ls l : List Pr} (hp : ls.Perm l) (hg : Good ls) (x : Int) : atP ls x = atP l x := by
  have hg2 := hg.perm hp
  cases e : atP l x with
  | none => exact atP_of_none (fun p hpm => atP_none e p (hp.mem_iff.1 hpm))
  | some v => exact atP_of_mem hg.1 (hp.mem_iff.2 (atP_some e))
theorem buildX2 (W : World) (x y : Int) : (Instr.buildSlice 24 2 #[(0, .int .i64 x), (1, .int .i64 y)]).run Tryz.prog W = .ok (.slice (some ⟨W.heap.size, 0, none⟩) 2 2) (W.alloc (.cells #[.int .i64 x, .int .i64 y] 2)) := by kernel_rfl
theorem one_own {o w : World} {R : List It} (h : St o R w) (x : Int) : St o (ownI 2 1 (.slice (some ⟨w.heap.size, 0, none⟩) 1 1) 1 (xC [x]) :: R) (w.alloc (.cells #[.int .i64 x] 2)) := by
  have := h.new64 [x] (by simp [maxLen])
  simpa [xC] using this
theorem two_own {o w : World} {R : List It} (h : St o R w) (x y : Int) : St o (ownI 2 1 (.slice (some ⟨w.heap.size, 0, none⟩) 2 2) 2 (xC [x, y]) :: R) (w.alloc (.cells #[.int .i64 x, .int .i64 y] 2)) := by
  have := h.new64 [x, y] (by simp [maxLen])
  simpa [xC] using this
/-- What a deed leaves in the map, and tells. -/
def TellE (o : World) (R : List It) (b : Nat) (after : List Pr) (told : List Int) (e : Ending) (w' : World) : Prop :=
  ∃ t ls, e = .returned t ∧ ls.Perm after ∧ St o (ownI 2 1 t told.length (xC told) :: mapV b ls :: R) w'
theorem TellE.less {o : World} {R : List It} {B : It} {b : Nat} {after : List Pr} {told : List Int} {e : Ending} {w' : World} (h : TellE o (B :: R) b after told e w') : TellE o R b after told e w' := by
  obtain ⟨t, ls, he, hp, s⟩ := h
  refine ⟨t, ls, he, hp, ?_⟩
  exact (St.perm (its' := B :: ownI _ _ _ _ _ :: mapV b ls :: R) s (perm_in B [_, _] R).symm).pop
section
variable {o w : World} {R : List It} {b : Nat} {ls l : List Pr}
set_option maxRecDepth 100000 in
set_option maxHeartbeats 4000000 in
theorem put_any (h : St o (mapV b ls :: R) w) (hp : ls.Perm l) (n op a c x y : Int) (hx : -9223372036854775808 ≤ x ∧ x ≤ 9223372036854775807) :
    Calls Tryz.prog 65 #[.map (some b), .int .i64 n, .agg #[.int .i64 op, .int .i64 a, .int .i64 c, .int .i64 x, .int .i64 y]] w (TellE o R b (doS l n ⟨1, a, c, x, y⟩).1 (doS l n ⟨1, a, c, x, y⟩).2) := by
  have hg := mapGood h
  have hat := perm_at hp hg x
  have hln : ls.length = l.length := hp.length_eq
  have s1 := (h.box #[.int .i64 op, .int .i64 a, .int .i64 c, .int .i64 x, .int .i64 y] 45).perm (List.Perm.swap _ _ _)
  unfold doS
  simp only [Int.reduceEq, ↓reduceIte]
  generalize hw1 : w.alloc (.cells #[.int .i64 op, .int .i64 a, .int .i64 c, .int .i64 x, .int .i64 y] 45) = w1 at *
  generalize hM : w.heap.size = M at *
  have c3 : w1.cell? ⟨M, 3, none⟩ = some (.int .i64 x) := s1.cell 1 rfl 3
  have c4 : w1.cell? ⟨M, 4, none⟩ = some (.int .i64 y) := s1.cell 1 rfl 4
  have hb := fun W x => buildX1 W x
  cases hl : atP l x with
  | some v =>
    rw [hl] at hat
    simp only
    have hlk := lookV_some (P := Tryz.prog) (t := 78) (s1.get 0 rfl) Tryz.underlying2 Tryz.underlying78 (atP_some hat)
    obtain ⟨w2, hup, -, s2⟩ := storeV_old (P := Tryz.prog) (t := 78) (v := y) s1 Tryz.underlying2 Tryz.underlying78 (atP_some hat)
    have HQ : Hid (TellE o R b (turnP l x y) [0] (.returned (.slice (some ⟨w2.heap.size, 0, none⟩) 1 1)) (w2.alloc (.cells #[.int .i64 0] 2))) := hid (TellE.less ⟨_, _, rfl, hp.map _, one_own s2 0⟩)
    generalize TellE o R b (turnP l x y) [0] = Q at *
    clear h s1 hg hat hl hp s2
    go_enter Tryz.func65, Tryz.ntmps65
    go_wp2_with (first | simp only [hw1, hM] | simp only [hlk] | simp only [hup] | simp only [hb])
    exact HQ.out
  | none =>
    rw [hl] at hat
    simp only
    have hlk := lookV_none (P := Tryz.prog) (t := 78) (s1.get 0 rfl) Tryz.underlying2 Tryz.underlying78 (Tryz.zeroValue2 w1) hx (atP_none hat)
    have hle := fun ty => lenV (P := Tryz.prog) (t := 78) (s1.get 0 rfl) Tryz.underlying78 ty
    by_cases hn : (l.length : Int) = n
    · rw [if_pos hn]
      have HQ : Hid (TellE o R b l [2] (.returned (.slice (some ⟨w1.heap.size, 0, none⟩) 1 1)) (w1.alloc (.cells #[.int .i64 2] 2))) := hid (TellE.less ⟨_, _, rfl, hp, one_own s1 2⟩)
      have t1 : (((ls.length : Nat) : Int) == n) = true := by simp; omega
      generalize ((ls.length : Nat) : Int) = lz at *
      generalize TellE o R b l [2] = Q at *
      clear h s1 hg hat hl hp hn hln
      go_enter Tryz.func65, Tryz.ntmps65
      go_wp2_with (first | simp only [hw1, hM] | simp only [hlk] | simp only [hle] | simp only [hb])
      exact HQ.out
    · rw [if_neg hn]
      obtain ⟨w2, hup, -, s2⟩ := storeV_new (P := Tryz.prog) (t := 78) (v := y) s1 Tryz.underlying2 Tryz.underlying78 hx (atP_none hat)
      have HQ : Hid (TellE o R b (insP (x, y) l) [1] (.returned (.slice (some ⟨w2.heap.size, 0, none⟩) 1 1)) (w2.alloc (.cells #[.int .i64 1] 2))) := hid (TellE.less ⟨_, _, rfl, (hp.cons _).trans (insP_perm _ _).symm, one_own s2 1⟩)
      have t1 : (((ls.length : Nat) : Int) == n) = false := by simp; omega
      generalize ((ls.length : Nat) : Int) = lz at *
      generalize TellE o R b (insP (x, y) l) [1] = Q at *
      clear h s1 hg hat hl hp hn hln s2
      go_enter Tryz.func65, Tryz.ntmps65
      go_wp2_with (first | simp only [hw1, hM] | simp only [hlk] | simp only [hle] | simp only [hup] | simp only [hb])
      exact HQ.out
set_option maxRecDepth 100000 in
set_option maxHeartbeats 8000000 in
theorem done_any (h : St o (mapV b ls :: R) w) (hp : ls.Perm l) (n : Int) (d : Dd) (hm : mayS d = true) (hx : -9223372036854775808 ≤ d.x ∧ d.x ≤ 9223372036854775807) :
    Calls Tryz.prog 42 #[.map (some b), .int .i64 n, d.val] w (TellE o R b (doS l n d).1 (doS l n d).2) := by
  obtain ⟨op, a, c, x, y⟩ := d
  simp only at hx
  have hop := may_op hm
  simp only at hop
  have hg := mapGood h
  have hat := perm_at hp hg x
  have hln : ls.length = l.length := hp.length_eq
  have s1 := (h.box #[.int .i64 op, .int .i64 a, .int .i64 c, .int .i64 x, .int .i64 y] 45).perm (List.Perm.swap _ _ _)
  show Calls _ _ #[_, _, .agg #[.int .i64 op, .int .i64 a, .int .i64 c, .int .i64 x, .int .i64 y]] _ _
  generalize hw1 : w.alloc (.cells #[.int .i64 op, .int .i64 a, .int .i64 c, .int .i64 x, .int .i64 y] 45) = w1 at *
  generalize hM : w.heap.size = M at *
  have c0 : w1.cell? ⟨M, 0, none⟩ = some (.int .i64 op) := s1.cell 1 rfl 0
  have c1 : w1.cell? ⟨M, 1, none⟩ = some (.int .i64 a) := s1.cell 1 rfl 1
  have c2 : w1.cell? ⟨M, 2, none⟩ = some (.int .i64 c) := s1.cell 1 rfl 2
  have c3 : w1.cell? ⟨M, 3, none⟩ = some (.int .i64 x) := s1.cell 1 rfl 3
  have c4 : w1.cell? ⟨M, 4, none⟩ = some (.int .i64 y) := s1.cell 1 rfl 4
  have hb := fun W x => buildX1 W x
  have hb2 := fun W x y => buildX2 W x y
  have hle := fun ty => lenV (P := Tryz.prog) (t := 78) (s1.get 0 rfl) Tryz.underlying78 ty
  have hpt := put_any s1 hp n op a c x y hx
  have HPT : Hid (∀ e w', TellE o (boxI M #[.int .i64 op, .int .i64 a, .int .i64 c, .int .i64 x, .int .i64 y] 45 :: R) b (doS l n ⟨1, a, c, x, y⟩).1 (doS l n ⟨1, a, c, x, y⟩).2 e w' → ∃ t, e = .returned t ∧ TellE o R b (doS l n ⟨1, a, c, x, y⟩).1 (doS l n ⟨1, a, c, x, y⟩).2 (.returned t) w') := hid (fun e w' hl => by
    obtain ⟨t, ls2, he, r⟩ := id hl
    exact ⟨t, he, by rw [← he]; exact hl.less⟩)
  have hlk : ∃ v0 th, (Instr.lookup 78 (.map (some b)) (.int .i64 x) true).run Tryz.prog w1 = .ok (.tuple #[.int .i64 v0, .bool th]) w1 ∧ ((th = true ∧ atP l x = some v0) ∨ (th = false ∧ atP l x = none)) := by
    cases hl : atP l x with
    | some v =>
      rw [hl] at hat
      exact ⟨v, true, lookV_some (s1.get 0 rfl) Tryz.underlying2 Tryz.underlying78 (atP_some hat), .inl ⟨rfl, rfl⟩⟩
    | none =>
      rw [hl] at hat
      exact ⟨0, false, lookV_none (s1.get 0 rfl) Tryz.underlying2 Tryz.underlying78 (Tryz.zeroValue2 w1) hx (atP_none hat), .inr ⟨rfl, rfl⟩⟩
  obtain ⟨v0, th, hlk, hth⟩ := hlk
  by_cases h5 : op = 5
  · subst h5
    have HQ : Hid (TellE o R b (doS l n ⟨5, a, c, x, y⟩).1 (doS l n ⟨5, a, c, x, y⟩).2 (.returned (.slice (some ⟨w1.heap.size, 0, none⟩) 1 1)) (w1.alloc (.cells #[.int .i64 (ls.length : Nat)] 2))) := hid (TellE.less ⟨_, _, rfl, hp, by rw [hln]; exact one_own s1 _⟩)
    generalize TellE o R b (doS l n ⟨5, a, c, x, y⟩).1 (doS l n ⟨5, a, c, x, y⟩).2 = Q at *
    generalize ((ls.length : Nat) : Int) = lz at *
    have hlz := hid hln
    clear h s1 hg hat hp hpt HPT hln hth hop hm
    go_enter Tryz.func42, Tryz.ntmps42
    go_wp2_with (first | simp only [hw1, hM] | simp only [hlk] | simp only [hle] | simp only [hb])
    exact HQ.out
  · have t5 : (op == 5) = false := by simpa using h5
    by_cases h1 : op = 1
    · subst h1
      generalize TellE o (boxI M #[.int .i64 1, .int .i64 a, .int .i64 c, .int .i64 x, .int .i64 y] 45 :: R) b (doS l n ⟨1, a, c, x, y⟩).1 (doS l n ⟨1, a, c, x, y⟩).2 = Q1 at *
      generalize TellE o R b (doS l n ⟨1, a, c, x, y⟩).1 (doS l n ⟨1, a, c, x, y⟩).2 = Q at *
      clear h s1 hg hat hp hln hth hop hm h5 hle
      go_enter Tryz.func42, Tryz.ntmps42
      go_wp2_with (first | simp only [hw1, hM] | simp only [hlk] | (go_at_call 65; refine hpt.mono ?_; intro e w2 s2; obtain ⟨t2, rfl, hQ2⟩ := HPT.out e w2 s2; have HQ2 := hid hQ2; clear hQ2 s2))
      exact HQ2.out
    · have t1 : (op == 1) = false := by simpa using h1
      clear hpt HPT hle
      rcases hth with ⟨rfl, hl⟩ | ⟨rfl, hl⟩
      · rw [hl] at hat
        by_cases h3 : op = 3
        · subst h3
          obtain ⟨w2, hdl, -, s2⟩ := dropV (P := Tryz.prog) (t := 78) s1 Tryz.underlying2 Tryz.underlying78 (atP_some hat)
          have e1 : doS l n ⟨3, a, c, x, y⟩ = (lackP l x, [1]) := by unfold doS; simp [hl]
          rw [e1]
          have HQ : Hid (TellE o R b (lackP l x) [1] (.returned (.slice (some ⟨w2.heap.size, 0, none⟩) 1 1)) (w2.alloc (.cells #[.int .i64 1] 2))) := hid (TellE.less ⟨_, _, rfl, hp.filter _, one_own s2 1⟩)
          generalize TellE o R b (lackP l x) [1] = Q at *
          clear h s1 hg hat hp hln hop hm h5 h1 e1 hl s2
          go_enter Tryz.func42, Tryz.ntmps42
          go_wp2_with (first | simp only [hw1, hM] | simp only [hlk] | simp only [hdl] | simp only [hb])
          exact HQ.out
        · have t3 : (op == 3) = false := by simpa using h3
          by_cases h4 : op = 4
          · subst h4
            obtain ⟨w2, hup, -, s2⟩ := storeV_old (P := Tryz.prog) (t := 78) (v := wrap64 (v0 + y)) s1 Tryz.underlying2 Tryz.underlying78 (atP_some hat)
            have e1 : doS l n ⟨4, a, c, x, y⟩ = (turnP l x (wrap64 (v0 + y)), [1, wrap64 (v0 + y)]) := by unfold doS; simp [hl]
            rw [e1]
            have HQ : Hid (TellE o R b (turnP l x (wrap64 (v0 + y))) [1, wrap64 (v0 + y)] (.returned (.slice (some ⟨w2.heap.size, 0, none⟩) 2 2)) (w2.alloc (.cells #[.int .i64 1, .int .i64 (wrap64 (v0 + y))] 2))) := hid (TellE.less ⟨_, _, rfl, hp.map _, two_own s2 1 _⟩)
            generalize TellE o R b (turnP l x (wrap64 (v0 + y))) [1, wrap64 (v0 + y)] = Q at *
            clear h s1 hg hat hp hln hop hm h5 h1 h3 e1 hl s2
            go_enter Tryz.func42, Tryz.ntmps42
            go_wp2_with (first | simp only [hw1, hM] | simp only [hlk] | simp only [hup] | simp only [hb2])
            exact HQ.out
          · have t4 : (op == 4) = false := by simpa using h4
            have e1 : doS l n ⟨op, a, c, x, y⟩ = (l, [1, v0]) := by unfold doS; simp [hl, h5, h1, h3, h4]
            rw [e1]
            have HQ : Hid (TellE o R b l [1, v0] (.returned (.slice (some ⟨w1.heap.size, 0, none⟩) 2 2)) (w1.alloc (.cells #[.int .i64 1, .int .i64 v0] 2))) := hid (TellE.less ⟨_, _, rfl, hp, two_own s1 1 _⟩)
            generalize TellE o R b l [1, v0] = Q at *
            clear h s1 hg hat hp hln hop hm h5 h1 h3 h4 e1 hl
            go_enter Tryz.func42, Tryz.ntmps42
            go_wp2_with (first | simp only [hw1, hM] | simp only [hlk] | simp only [hb2])
            exact HQ.out
      · have e1 : doS l n ⟨op, a, c, x, y⟩ = (l, [0]) := by unfold doS; simp [hl, h5, h1]
        rw [e1]
        have HQ : Hid (TellE o R b l [0] (.returned (.slice (some ⟨w1.heap.size, 0, none⟩) 1 1)) (w1.alloc (.cells #[.int .i64 0] 2))) := hid (TellE.less ⟨_, _, rfl, hp, one_own s1 _⟩)
        generalize TellE o R b l [0] = Q at *
        clear h s1 hg hat hp hln hop hm h5 h1 e1 hl
        go_enter Tryz.func42, Tryz.ntmps42
        go_wp2_with (first | simp only [hw1, hM] | simp only [hlk] | simp only [hb])
        exact HQ.out
end
end Go.Proofs.YtbpilhjomfkpaaaGreatDoor
