/- Package ghost: the book in memory; takes, openOf, end. -/
import Derived.Test.YtkhbkdabihokjaaGa

namespace Go.Proofs.Ytkhbkdabihokjaa
open Go.RowKit Go.MapKept
open Go.Maps (Keyed)
set_option linter.unusedVariables false
set_option linter.unusedSimpArgs false
attribute [local go_sem ↓] Go.wp_at_zero Go.wp_at_succ

abbrev mvI (m : Sm) : It := lstR mC 38 6 (.slice m.la m.s.ms.length m.lc) m.s.ms
/-- Stories of the call's own. -/
abbrev stL (v : Value) (L : List Sm) : List It := lstR sC 36 10 v L :: L.map mvI
/-- The map of open stories. -/
def OpR (ls : List Pr) (op : Int → Option Nat) : Prop := ∀ x v, (x, v) ∈ ls ↔ ∃ p : Nat, op x = some p ∧ v = (p : Int)
/-- The book. -/
abbrev bkL (X mb : Nat) (sv : Value) (L : List Sm) (ls : List Pr) (st : Int) (R : List It) : List It :=
  boxI X #[sv, .map (some mb), .int .i64 st] 65 :: mapV mb ls :: lstR sC 36 10 sv L :: (L.map mvI ++ R)
theorem lookV_plain {P : Program} {k t e : TypeId} {w : World} {b : Nat} {ls : List Pr} (h : MapV w b ls) (hk : P.underlying k = some (.int .i64)) (ht : P.underlying t = some (.map k e)) {x v : Int} (hm : (x, v) ∈ ls) :
    (Instr.lookup t (.map (some b)) (.int .i64 x) false).run P w = .ok (.int .i64 v) w := by
  obtain ⟨es, c, hb, hB⟩ := h
  have hx := Go.Maps.keyOf_int_mk hk (wf_key (hB.2.1.2 _ hm))
  rcases (lawI hk).find w hx es.toList (hB.keys hk) with ⟨h1, h2⟩ | ⟨j, e0, h1, h2, h3⟩
  · obtain ⟨e0, he, k1, _⟩ := hB.to_mem hm
    exact absurd k1 (h2 e0 he)
  · obtain ⟨p, hp, k1, k2⟩ := hB.of_mem (List.mem_of_getElem? h2)
    rw [k1] at h3
    simp only [Value.int.injEq, true_and] at h3
    have := hB.2.1.uniq hp hm h3
    subst this
    simp [Instr.lookup, run_underlying ht, MapKept.run_getObj_map hb, (lawI hk).check w _ hx, h1, Result.andThen, k2]
theorem Try.zeroInt (w : World) : (zeroValue 3).run Try.prog w = .ok (.int .i64 0) w := by simp [go_sem]
theorem sy_at {L : List Sm} {ss : List Sy} (hL : L.map Sm.s = ss) {p : Nat} (hp : p < ss.length) : ∃ m, L[p]? = some m ∧ m.s = ss.getD p Sy.zero := by
  subst hL
  rw [List.length_map] at hp
  exact ⟨L[p], List.getElem?_eq_getElem hp, by simp [List.getD_eq_getElem?_getD, hp]⟩
set_option maxRecDepth 100000 in
set_option maxHeartbeats 4000000 in
theorem takes_A {X E mb : Nat} {st pl kd sv' th sp ce x ga er by_ : Int} {fo ow : Bool} {w w1 : World} {P : World → Prop} {Qp : Ending → World → Prop} (hw1 : w.alloc (.cells #[.int .i64 kd, .int .i64 sv', .int .i64 th, .int .i64 sp, .int .i64 ce, .int .i64 x, .bool ow, .int .i64 ga, .int .i64 er, .int .i64 by_] 26) = w1) (hE : w.heap.size = E)
    (C1 : ∀ W, P W → Calls Try.prog 44 #[.agg #[.int .i64 kd, .int .i64 sv', .int .i64 th, .int .i64 sp, .int .i64 ce, .int .i64 x, .bool ow, .int .i64 ga, .int .i64 er, .int .i64 by_]] W fun e w' => e = .returned (.bool false) ∧ P w')
    (CH : Hid (∀ W, P W → W.cell? ⟨E, 0, none⟩ = some (.int .i64 kd) ∧ W.cell? ⟨E, 1, none⟩ = some (.int .i64 sv') ∧ W.cell? ⟨E, 2, none⟩ = some (.int .i64 th) ∧ W.cell? ⟨E, 3, none⟩ = some (.int .i64 sp) ∧ W.cell? ⟨E, 4, none⟩ = some (.int .i64 ce) ∧ W.cell? ⟨E, 5, none⟩ = some (.int .i64 x) ∧ W.cell? ⟨E, 6, none⟩ = some (.bool ow) ∧ W.cell? ⟨E, 7, none⟩ = some (.int .i64 ga) ∧ W.cell? ⟨E, 8, none⟩ = some (.int .i64 er) ∧ W.cell? ⟨E, 9, none⟩ = some (.int .i64 by_) ∧ W.cell? ⟨X, 2, none⟩ = some (.int .i64 st) ∧ P W))
    (hD : P w1.drew) (HD : Hid (∀ W, P W → P W.drew)) (HN : Hid (∀ W n, P W → P (W.drewN n)))
    (HQ : Hid (∀ W, P W → Qp (Ending.returned (.bool false)) W)) :
    Calls Try.prog 30 #[.pointer (some ⟨X, 0, none⟩), .agg #[.int .i64 kd, .int .i64 sv', .int .i64 th, .int .i64 sp, .int .i64 ce, .int .i64 x, .bool ow, .int .i64 ga, .int .i64 er, .int .i64 by_]] w Qp := by
  obtain ⟨c0, c1, c2, c3, c4, c5, c6, c7, c8, c9, c10, _⟩ := CH.out _ hD
  go_enter Try.func30, Try.ntmps30
  go_upto_region 1 with (simp only [hw1, hE])
  refine wp_region_held_drew (S := (fun W => W.cell? ⟨E, 0, none⟩ = some (.int .i64 kd) ∧ W.cell? ⟨E, 1, none⟩ = some (.int .i64 sv') ∧ W.cell? ⟨E, 2, none⟩ = some (.int .i64 th) ∧ W.cell? ⟨E, 3, none⟩ = some (.int .i64 sp) ∧ W.cell? ⟨E, 4, none⟩ = some (.int .i64 ce) ∧ W.cell? ⟨E, 5, none⟩ = some (.int .i64 x) ∧ W.cell? ⟨E, 6, none⟩ = some (.bool ow) ∧ W.cell? ⟨E, 7, none⟩ = some (.int .i64 ga) ∧ W.cell? ⟨E, 8, none⟩ = some (.int .i64 er) ∧ W.cell? ⟨E, 9, none⟩ = some (.int .i64 by_) ∧ W.cell? ⟨X, 2, none⟩ = some (.int .i64 st) ∧ P W)) (by kernel_rfl) (CH.out _ hD) (fun hHeld => ?_)
  refine wpAnyH_take (i := 0) (oi := { dst := some 7, op := Op.load 26 (Operand.tmp 3), type := 26, pos := "book.go:16", after := #[], guard := none }) (v := ?v2_0) rfl (by kernel_rfl) (by kernel_rfl) (by kernel_rfl) (fun _ _ _ h => h) (Or.inl ⟨by rfl, ?hy2_0⟩) (by assumption) ?_
  case hy2_0 => (intro W hSw; (try dsimp only at hSw); go_simp; (try with_reducible rfl))
  try simp only [Act.put, List.setIfInBounds_toArray, List.set_cons_zero, List.set_cons_succ]
  refine wpAnyH_ready (rs := [1]) (by kernel_rfl) (by simp) ?_
  refine AllReadyH.cons (o := { dst := some 8, op := Op.call { callee := Callee.value (Operand.func 44), args := #[Operand.tmp 7], argTypes := #[26] }, type := 4, pos := "book.go:16", after := #[{ on := 0, ground := Ground.data }], guard := none }) rfl (fun K hK => ?_) AllReadyH.nil
  go_simp
  refine (C1 _ hD).mono ?_
  rintro e wx ⟨rfl, hD⟩
  go_wp2_with fail
  refine hK.out _ _ (CH.out _ hD) (fun hHeld => ?_)
  clear hK K
  try simp only [Act.put, List.setIfInBounds_toArray, List.set_cons_zero, List.set_cons_succ]
  refine wpAnyH_take (i := 2) (oi := { dst := some 9, op := Op.unOp UnOp.not 4 (Operand.tmp 8), type := 4, pos := "book.go:16", after := #[{ on := 1, ground := Ground.data }], guard := none }) (v := ?v4_2) rfl (by kernel_rfl) (by kernel_rfl) (by kernel_rfl) (fun _ _ _ h => h) (Or.inl ⟨by rfl, ?hy4_2⟩) (by assumption) ?_
  case hy4_2 => (intro W hSw; (try dsimp only at hSw); go_simp; (try with_reducible rfl))
  try simp only [Act.put, List.setIfInBounds_toArray, List.set_cons_zero, List.set_cons_succ]
  refine wpAnyH_take (i := 3) (oi := { dst := some 10, op := Op.move (Operand.tmp 9), type := 4, pos := "book.go:16", after := #[{ on := 2, ground := Ground.data }, { on := 1, ground := Ground.chain }], guard := none }) (v := ?v4_3) rfl (by kernel_rfl) (by kernel_rfl) (by kernel_rfl) (fun _ _ _ h => h) (Or.inl ⟨by rfl, ?hy4_3⟩) (by assumption) ?_
  case hy4_3 => (intro W hSw; (try dsimp only at hSw); go_simp; (try with_reducible rfl))
  try simp only [Act.put, List.setIfInBounds_toArray, List.set_cons_zero, List.set_cons_succ]
  refine wpAnyH_take (i := 4) (oi := { dst := some 11, op := Op.fieldAddr 26 (Operand.tmp 3) 1, type := 0, pos := "book.go:16", after := #[{ on := 3, ground := Ground.guard }], guard := some (3, false) }) (v := undef) rfl (by kernel_rfl) (by kernel_rfl) (by kernel_rfl) (fun _ _ _ h => h) (Or.inr ⟨by rfl, rfl⟩) (by assumption) ?_
  try simp only [Act.put, List.setIfInBounds_toArray, List.set_cons_zero, List.set_cons_succ]
  refine wpAnyH_take (i := 5) (oi := { dst := some 12, op := Op.load 3 (Operand.tmp 11), type := 3, pos := "book.go:16", after := #[{ on := 4, ground := Ground.data }, { on := 3, ground := Ground.guard }], guard := some (3, false) }) (v := undef) rfl (by kernel_rfl) (by kernel_rfl) (by kernel_rfl) (fun _ _ _ h => h) (Or.inr ⟨by rfl, rfl⟩) (by assumption) ?_
  try simp only [Act.put, List.setIfInBounds_toArray, List.set_cons_zero, List.set_cons_succ]
  refine wpAnyH_take (i := 6) (oi := { dst := some 13, op := Op.move (Operand.tmp 0), type := 59, pos := "book.go:16", after := #[{ on := 3, ground := Ground.guard }], guard := some (3, false) }) (v := undef) rfl (by kernel_rfl) (by kernel_rfl) (by kernel_rfl) (fun _ _ _ h => h) (Or.inr ⟨by rfl, rfl⟩) (by assumption) ?_
  try simp only [Act.put, List.setIfInBounds_toArray, List.set_cons_zero, List.set_cons_succ]
  refine wpAnyH_take (i := 7) (oi := { dst := some 14, op := Op.nilCheck (Operand.tmp 13), type := 0, pos := "book.go:16", after := #[{ on := 6, ground := Ground.data }, { on := 3, ground := Ground.guard }], guard := some (3, false) }) (v := undef) rfl (by kernel_rfl) (by kernel_rfl) (by kernel_rfl) (fun _ _ _ h => h) (Or.inr ⟨by rfl, rfl⟩) (by assumption) ?_
  try simp only [Act.put, List.setIfInBounds_toArray, List.set_cons_zero, List.set_cons_succ]
  refine wpAnyH_take (i := 8) (oi := { dst := some 15, op := Op.fieldAddr 65 (Operand.tmp 14) 2, type := 0, pos := "book.go:16", after := #[{ on := 7, ground := Ground.data }, { on := 3, ground := Ground.guard }], guard := some (3, false) }) (v := undef) rfl (by kernel_rfl) (by kernel_rfl) (by kernel_rfl) (fun _ _ _ h => h) (Or.inr ⟨by rfl, rfl⟩) (by assumption) ?_
  try simp only [Act.put, List.setIfInBounds_toArray, List.set_cons_zero, List.set_cons_succ]
  refine wpAnyH_take (i := 9) (oi := { dst := some 16, op := Op.load 3 (Operand.tmp 15), type := 3, pos := "book.go:16", after := #[{ on := 8, ground := Ground.data }, { on := 3, ground := Ground.guard }], guard := some (3, false) }) (v := undef) rfl (by kernel_rfl) (by kernel_rfl) (by kernel_rfl) (fun _ _ _ h => h) (Or.inr ⟨by rfl, rfl⟩) (by assumption) ?_
  try simp only [Act.put, List.setIfInBounds_toArray, List.set_cons_zero, List.set_cons_succ]
  refine wpAnyH_take (i := 10) (oi := { dst := some 17, op := Op.binOp BinOp.lss 3 (Operand.tmp 12) (Operand.tmp 16) 3, type := 4, pos := "book.go:16", after := #[{ on := 5, ground := Ground.data }, { on := 9, ground := Ground.data }, { on := 3, ground := Ground.guard }], guard := some (3, false) }) (v := undef) rfl (by kernel_rfl) (by kernel_rfl) (by kernel_rfl) (fun _ _ _ h => h) (Or.inr ⟨by rfl, rfl⟩) (by assumption) ?_
  try simp only [Act.put, List.setIfInBounds_toArray, List.set_cons_zero, List.set_cons_succ]
  refine wpAnyH_take (i := 11) (oi := { dst := some 18, op := Op.pick (Operand.tmp 10) (Operand.const (Value.bool true)) (Operand.tmp 17), type := 4, pos := "book.go:16", after := #[{ on := 3, ground := Ground.data }, { on := 10, ground := Ground.data }], guard := none }) (v := ?v6_11) rfl (by kernel_rfl) (by kernel_rfl) (by kernel_rfl) (fun _ _ _ h => h) (Or.inl ⟨by rfl, ?hy6_11⟩) (by assumption) ?_
  case hy6_11 => (intro W hSw; (try dsimp only at hSw); go_simp; (try with_reducible rfl))
  try simp only [Act.put, List.setIfInBounds_toArray, List.set_cons_zero, List.set_cons_succ]
  refine wpAnyH_done (by kernel_rfl) ?_ _
  go_wp2
  exact HQ.out _ hD
set_option maxRecDepth 100000 in
set_option maxHeartbeats 4000000 in
theorem takes_B {X E mb : Nat} {st pl kd sv' th sp ce x ga er by_ : Int} {fo ow : Bool} {w w1 : World} {P : World → Prop} {Qp : Ending → World → Prop} (hw1 : w.alloc (.cells #[.int .i64 kd, .int .i64 sv', .int .i64 th, .int .i64 sp, .int .i64 ce, .int .i64 x, .bool ow, .int .i64 ga, .int .i64 er, .int .i64 by_] 26) = w1) (hE : w.heap.size = E)
    (C1 : ∀ W, P W → Calls Try.prog 44 #[.agg #[.int .i64 kd, .int .i64 sv', .int .i64 th, .int .i64 sp, .int .i64 ce, .int .i64 x, .bool ow, .int .i64 ga, .int .i64 er, .int .i64 by_]] W fun e w' => e = .returned (.bool true) ∧ P w')
    (CH : Hid (∀ W, P W → W.cell? ⟨E, 0, none⟩ = some (.int .i64 kd) ∧ W.cell? ⟨E, 1, none⟩ = some (.int .i64 sv') ∧ W.cell? ⟨E, 2, none⟩ = some (.int .i64 th) ∧ W.cell? ⟨E, 3, none⟩ = some (.int .i64 sp) ∧ W.cell? ⟨E, 4, none⟩ = some (.int .i64 ce) ∧ W.cell? ⟨E, 5, none⟩ = some (.int .i64 x) ∧ W.cell? ⟨E, 6, none⟩ = some (.bool ow) ∧ W.cell? ⟨E, 7, none⟩ = some (.int .i64 ga) ∧ W.cell? ⟨E, 8, none⟩ = some (.int .i64 er) ∧ W.cell? ⟨E, 9, none⟩ = some (.int .i64 by_) ∧ W.cell? ⟨X, 2, none⟩ = some (.int .i64 st) ∧ P W))
    (hD : P w1.drew) (HD : Hid (∀ W, P W → P W.drew)) (HN : Hid (∀ W n, P W → P (W.drewN n)))
    (t1 : sv' < st)
    (HQ : Hid (∀ W, P W → Qp (Ending.returned (.bool false)) W)) :
    Calls Try.prog 30 #[.pointer (some ⟨X, 0, none⟩), .agg #[.int .i64 kd, .int .i64 sv', .int .i64 th, .int .i64 sp, .int .i64 ce, .int .i64 x, .bool ow, .int .i64 ga, .int .i64 er, .int .i64 by_]] w Qp := by
  obtain ⟨c0, c1, c2, c3, c4, c5, c6, c7, c8, c9, c10, _⟩ := CH.out _ hD
  go_enter Try.func30, Try.ntmps30
  go_upto_region 1 with (simp only [hw1, hE])
  go_region_held3 (fun W => W.cell? ⟨E, 0, none⟩ = some (.int .i64 kd) ∧ W.cell? ⟨E, 1, none⟩ = some (.int .i64 sv') ∧ W.cell? ⟨E, 2, none⟩ = some (.int .i64 th) ∧ W.cell? ⟨E, 3, none⟩ = some (.int .i64 sp) ∧ W.cell? ⟨E, 4, none⟩ = some (.int .i64 ce) ∧ W.cell? ⟨E, 5, none⟩ = some (.int .i64 x) ∧ W.cell? ⟨E, 6, none⟩ = some (.bool ow) ∧ W.cell? ⟨E, 7, none⟩ = some (.int .i64 ga) ∧ W.cell? ⟨E, 8, none⟩ = some (.int .i64 er) ∧ W.cell? ⟨E, 9, none⟩ = some (.int .i64 by_) ∧ W.cell? ⟨X, 2, none⟩ = some (.int .i64 st) ∧ P W) (first | exact CH.out _ hD) (first | (go_at_call 44; refine (C1 _ hD).mono ?_; rintro e wx ⟨rfl, hD⟩))
  go_wp2
  exact HQ.out _ hD
set_option maxRecDepth 100000 in
set_option maxHeartbeats 4000000 in
theorem takes_C {X E mb : Nat} {st pl kd sv' th sp ce x ga er by_ : Int} {fo ow : Bool} {w w1 : World} {P : World → Prop} {Qp : Ending → World → Prop} (hw1 : w.alloc (.cells #[.int .i64 kd, .int .i64 sv', .int .i64 th, .int .i64 sp, .int .i64 ce, .int .i64 x, .bool ow, .int .i64 ga, .int .i64 er, .int .i64 by_] 26) = w1) (hE : w.heap.size = E)
    (C1 : ∀ W, P W → Calls Try.prog 44 #[.agg #[.int .i64 kd, .int .i64 sv', .int .i64 th, .int .i64 sp, .int .i64 ce, .int .i64 x, .bool ow, .int .i64 ga, .int .i64 er, .int .i64 by_]] W fun e w' => e = .returned (.bool true) ∧ P w')
    (CH : Hid (∀ W, P W → W.cell? ⟨E, 0, none⟩ = some (.int .i64 kd) ∧ W.cell? ⟨E, 1, none⟩ = some (.int .i64 sv') ∧ W.cell? ⟨E, 2, none⟩ = some (.int .i64 th) ∧ W.cell? ⟨E, 3, none⟩ = some (.int .i64 sp) ∧ W.cell? ⟨E, 4, none⟩ = some (.int .i64 ce) ∧ W.cell? ⟨E, 5, none⟩ = some (.int .i64 x) ∧ W.cell? ⟨E, 6, none⟩ = some (.bool ow) ∧ W.cell? ⟨E, 7, none⟩ = some (.int .i64 ga) ∧ W.cell? ⟨E, 8, none⟩ = some (.int .i64 er) ∧ W.cell? ⟨E, 9, none⟩ = some (.int .i64 by_) ∧ W.cell? ⟨X, 2, none⟩ = some (.int .i64 st) ∧ P W))
    (hD : P w1.drew) (HD : Hid (∀ W, P W → P W.drew)) (HN : Hid (∀ W n, P W → P (W.drewN n)))
    (t1 : decide (sv' < st) = false) (HL : Hid (∀ W, P W → W.cell? ⟨X, 1, none⟩ = some (.map (some mb)) ∧ (Instr.lookup 63 (.map (some mb)) (.int .i64 th) true).run Try.prog W = .ok (.tuple #[.int .i64 pl, .bool fo]) W))
    (tk : (kd == 1) = true)
    (HQ : Hid (∀ W, P W → Qp (Ending.returned (.bool (!fo))) W)) :
    Calls Try.prog 30 #[.pointer (some ⟨X, 0, none⟩), .agg #[.int .i64 kd, .int .i64 sv', .int .i64 th, .int .i64 sp, .int .i64 ce, .int .i64 x, .bool ow, .int .i64 ga, .int .i64 er, .int .i64 by_]] w Qp := by
  obtain ⟨c0, c1, c2, c3, c4, c5, c6, c7, c8, c9, c10, _⟩ := CH.out _ hD
  go_enter Try.func30, Try.ntmps30
  go_upto_region 1 with (simp only [hw1, hE])
  go_region_held3 (fun W => W.cell? ⟨E, 0, none⟩ = some (.int .i64 kd) ∧ W.cell? ⟨E, 1, none⟩ = some (.int .i64 sv') ∧ W.cell? ⟨E, 2, none⟩ = some (.int .i64 th) ∧ W.cell? ⟨E, 3, none⟩ = some (.int .i64 sp) ∧ W.cell? ⟨E, 4, none⟩ = some (.int .i64 ce) ∧ W.cell? ⟨E, 5, none⟩ = some (.int .i64 x) ∧ W.cell? ⟨E, 6, none⟩ = some (.bool ow) ∧ W.cell? ⟨E, 7, none⟩ = some (.int .i64 ga) ∧ W.cell? ⟨E, 8, none⟩ = some (.int .i64 er) ∧ W.cell? ⟨E, 9, none⟩ = some (.int .i64 by_) ∧ W.cell? ⟨X, 2, none⟩ = some (.int .i64 st) ∧ P W) (first | exact CH.out _ hD) (first | (go_at_call 44; refine (C1 _ hD).mono ?_; rintro e wx ⟨rfl, hD⟩))
  have hD' := HD.out _ hD
  obtain ⟨c0, c1, c2, c3, c4, c5, c6, c7, c8, c9, c10, _⟩ := CH.out _ hD'
  obtain ⟨c11, hlk⟩ := HL.out _ hD'
  go_upto_region 3 with fail
  go_region
  go_wp2
  exact HQ.out _ (HD.out _ hD)
set_option maxRecDepth 100000 in
set_option maxHeartbeats 4000000 in
theorem takes_D {X E mb : Nat} {st pl kd sv' th sp ce x ga er by_ : Int} {fo ow : Bool} {w w1 : World} {P : World → Prop} {Qp : Ending → World → Prop} (hw1 : w.alloc (.cells #[.int .i64 kd, .int .i64 sv', .int .i64 th, .int .i64 sp, .int .i64 ce, .int .i64 x, .bool ow, .int .i64 ga, .int .i64 er, .int .i64 by_] 26) = w1) (hE : w.heap.size = E)
    (C1 : ∀ W, P W → Calls Try.prog 44 #[.agg #[.int .i64 kd, .int .i64 sv', .int .i64 th, .int .i64 sp, .int .i64 ce, .int .i64 x, .bool ow, .int .i64 ga, .int .i64 er, .int .i64 by_]] W fun e w' => e = .returned (.bool true) ∧ P w')
    (CH : Hid (∀ W, P W → W.cell? ⟨E, 0, none⟩ = some (.int .i64 kd) ∧ W.cell? ⟨E, 1, none⟩ = some (.int .i64 sv') ∧ W.cell? ⟨E, 2, none⟩ = some (.int .i64 th) ∧ W.cell? ⟨E, 3, none⟩ = some (.int .i64 sp) ∧ W.cell? ⟨E, 4, none⟩ = some (.int .i64 ce) ∧ W.cell? ⟨E, 5, none⟩ = some (.int .i64 x) ∧ W.cell? ⟨E, 6, none⟩ = some (.bool ow) ∧ W.cell? ⟨E, 7, none⟩ = some (.int .i64 ga) ∧ W.cell? ⟨E, 8, none⟩ = some (.int .i64 er) ∧ W.cell? ⟨E, 9, none⟩ = some (.int .i64 by_) ∧ W.cell? ⟨X, 2, none⟩ = some (.int .i64 st) ∧ P W))
    (hD : P w1.drew) (HD : Hid (∀ W, P W → P W.drew)) (HN : Hid (∀ W n, P W → P (W.drewN n)))
    (t1 : decide (sv' < st) = false) (HL : Hid (∀ W, P W → W.cell? ⟨X, 1, none⟩ = some (.map (some mb)) ∧ (Instr.lookup 63 (.map (some mb)) (.int .i64 th) true).run Try.prog W = .ok (.tuple #[.int .i64 pl, .bool fo]) W))
    (tk : (kd == 1) = false) (tk6 : (kd == 6) = true)
    (HQ : Hid (∀ W, P W → Qp (Ending.returned (.bool (!fo))) W)) :
    Calls Try.prog 30 #[.pointer (some ⟨X, 0, none⟩), .agg #[.int .i64 kd, .int .i64 sv', .int .i64 th, .int .i64 sp, .int .i64 ce, .int .i64 x, .bool ow, .int .i64 ga, .int .i64 er, .int .i64 by_]] w Qp := by
  obtain ⟨c0, c1, c2, c3, c4, c5, c6, c7, c8, c9, c10, _⟩ := CH.out _ hD
  go_enter Try.func30, Try.ntmps30
  go_upto_region 1 with (simp only [hw1, hE])
  go_region_held3 (fun W => W.cell? ⟨E, 0, none⟩ = some (.int .i64 kd) ∧ W.cell? ⟨E, 1, none⟩ = some (.int .i64 sv') ∧ W.cell? ⟨E, 2, none⟩ = some (.int .i64 th) ∧ W.cell? ⟨E, 3, none⟩ = some (.int .i64 sp) ∧ W.cell? ⟨E, 4, none⟩ = some (.int .i64 ce) ∧ W.cell? ⟨E, 5, none⟩ = some (.int .i64 x) ∧ W.cell? ⟨E, 6, none⟩ = some (.bool ow) ∧ W.cell? ⟨E, 7, none⟩ = some (.int .i64 ga) ∧ W.cell? ⟨E, 8, none⟩ = some (.int .i64 er) ∧ W.cell? ⟨E, 9, none⟩ = some (.int .i64 by_) ∧ W.cell? ⟨X, 2, none⟩ = some (.int .i64 st) ∧ P W) (first | exact CH.out _ hD) (first | (go_at_call 44; refine (C1 _ hD).mono ?_; rintro e wx ⟨rfl, hD⟩))
  have hD' := HD.out _ hD
  obtain ⟨c0, c1, c2, c3, c4, c5, c6, c7, c8, c9, c10, _⟩ := CH.out _ hD'
  obtain ⟨c11, hlk⟩ := HL.out _ hD'
  go_upto_region 3 with fail
  go_region
  go_wp2
  exact HQ.out _ (HD.out _ hD)
set_option maxRecDepth 100000 in
set_option maxHeartbeats 4000000 in
theorem takes_E {X E mb : Nat} {st pl kd sv' th sp ce x ga er by_ : Int} {fo ow : Bool} {w w1 : World} {P : World → Prop} {Qp : Ending → World → Prop} (hw1 : w.alloc (.cells #[.int .i64 kd, .int .i64 sv', .int .i64 th, .int .i64 sp, .int .i64 ce, .int .i64 x, .bool ow, .int .i64 ga, .int .i64 er, .int .i64 by_] 26) = w1) (hE : w.heap.size = E)
    (C1 : ∀ W, P W → Calls Try.prog 44 #[.agg #[.int .i64 kd, .int .i64 sv', .int .i64 th, .int .i64 sp, .int .i64 ce, .int .i64 x, .bool ow, .int .i64 ga, .int .i64 er, .int .i64 by_]] W fun e w' => e = .returned (.bool true) ∧ P w')
    (CH : Hid (∀ W, P W → W.cell? ⟨E, 0, none⟩ = some (.int .i64 kd) ∧ W.cell? ⟨E, 1, none⟩ = some (.int .i64 sv') ∧ W.cell? ⟨E, 2, none⟩ = some (.int .i64 th) ∧ W.cell? ⟨E, 3, none⟩ = some (.int .i64 sp) ∧ W.cell? ⟨E, 4, none⟩ = some (.int .i64 ce) ∧ W.cell? ⟨E, 5, none⟩ = some (.int .i64 x) ∧ W.cell? ⟨E, 6, none⟩ = some (.bool ow) ∧ W.cell? ⟨E, 7, none⟩ = some (.int .i64 ga) ∧ W.cell? ⟨E, 8, none⟩ = some (.int .i64 er) ∧ W.cell? ⟨E, 9, none⟩ = some (.int .i64 by_) ∧ W.cell? ⟨X, 2, none⟩ = some (.int .i64 st) ∧ P W))
    (hD : P w1.drew) (HD : Hid (∀ W, P W → P W.drew)) (HN : Hid (∀ W n, P W → P (W.drewN n)))
    (t1 : decide (sv' < st) = false) (HL : Hid (∀ W, P W → W.cell? ⟨X, 1, none⟩ = some (.map (some mb)) ∧ (Instr.lookup 63 (.map (some mb)) (.int .i64 th) true).run Try.prog W = .ok (.tuple #[.int .i64 pl, .bool fo]) W))
    (tk : (kd == 1) = false) (tk6 : (kd == 6) = false) (tf : fo = false)
    (HQ : Hid (∀ W, P W → Qp (Ending.returned (.bool false)) W)) :
    Calls Try.prog 30 #[.pointer (some ⟨X, 0, none⟩), .agg #[.int .i64 kd, .int .i64 sv', .int .i64 th, .int .i64 sp, .int .i64 ce, .int .i64 x, .bool ow, .int .i64 ga, .int .i64 er, .int .i64 by_]] w Qp := by
  obtain ⟨c0, c1, c2, c3, c4, c5, c6, c7, c8, c9, c10, _⟩ := CH.out _ hD
  go_enter Try.func30, Try.ntmps30
  go_upto_region 1 with (simp only [hw1, hE])
  go_region_held3 (fun W => W.cell? ⟨E, 0, none⟩ = some (.int .i64 kd) ∧ W.cell? ⟨E, 1, none⟩ = some (.int .i64 sv') ∧ W.cell? ⟨E, 2, none⟩ = some (.int .i64 th) ∧ W.cell? ⟨E, 3, none⟩ = some (.int .i64 sp) ∧ W.cell? ⟨E, 4, none⟩ = some (.int .i64 ce) ∧ W.cell? ⟨E, 5, none⟩ = some (.int .i64 x) ∧ W.cell? ⟨E, 6, none⟩ = some (.bool ow) ∧ W.cell? ⟨E, 7, none⟩ = some (.int .i64 ga) ∧ W.cell? ⟨E, 8, none⟩ = some (.int .i64 er) ∧ W.cell? ⟨E, 9, none⟩ = some (.int .i64 by_) ∧ W.cell? ⟨X, 2, none⟩ = some (.int .i64 st) ∧ P W) (first | exact CH.out _ hD) (first | (go_at_call 44; refine (C1 _ hD).mono ?_; rintro e wx ⟨rfl, hD⟩))
  have hD' := HD.out _ hD
  obtain ⟨c0, c1, c2, c3, c4, c5, c6, c7, c8, c9, c10, _⟩ := CH.out _ hD'
  obtain ⟨c11, hlk⟩ := HL.out _ hD'
  go_upto_region 3 with fail
  go_region
  go_upto_region 6 with fail
  subst tf
  go_quiet (fail)
  go_wp2
  exact HQ.out _ (HN.out _ _ hD')
set_option maxRecDepth 100000 in
set_option maxHeartbeats 4000000 in
theorem takes_F {X E mb : Nat} {st pl kd sv' th sp ce x ga er by_ : Int} {fo ow : Bool} {w w1 : World} {P : World → Prop} {Qp : Ending → World → Prop} (hw1 : w.alloc (.cells #[.int .i64 kd, .int .i64 sv', .int .i64 th, .int .i64 sp, .int .i64 ce, .int .i64 x, .bool ow, .int .i64 ga, .int .i64 er, .int .i64 by_] 26) = w1) (hE : w.heap.size = E)
    (C1 : ∀ W, P W → Calls Try.prog 44 #[.agg #[.int .i64 kd, .int .i64 sv', .int .i64 th, .int .i64 sp, .int .i64 ce, .int .i64 x, .bool ow, .int .i64 ga, .int .i64 er, .int .i64 by_]] W fun e w' => e = .returned (.bool true) ∧ P w')
    (CH : Hid (∀ W, P W → W.cell? ⟨E, 0, none⟩ = some (.int .i64 kd) ∧ W.cell? ⟨E, 1, none⟩ = some (.int .i64 sv') ∧ W.cell? ⟨E, 2, none⟩ = some (.int .i64 th) ∧ W.cell? ⟨E, 3, none⟩ = some (.int .i64 sp) ∧ W.cell? ⟨E, 4, none⟩ = some (.int .i64 ce) ∧ W.cell? ⟨E, 5, none⟩ = some (.int .i64 x) ∧ W.cell? ⟨E, 6, none⟩ = some (.bool ow) ∧ W.cell? ⟨E, 7, none⟩ = some (.int .i64 ga) ∧ W.cell? ⟨E, 8, none⟩ = some (.int .i64 er) ∧ W.cell? ⟨E, 9, none⟩ = some (.int .i64 by_) ∧ W.cell? ⟨X, 2, none⟩ = some (.int .i64 st) ∧ P W))
    (hD : P w1.drew) (HD : Hid (∀ W, P W → P W.drew)) (HN : Hid (∀ W n, P W → P (W.drewN n)))
    (t1 : decide (sv' < st) = false) (HL : Hid (∀ W, P W → W.cell? ⟨X, 1, none⟩ = some (.map (some mb)) ∧ (Instr.lookup 63 (.map (some mb)) (.int .i64 th) true).run Try.prog W = .ok (.tuple #[.int .i64 pl, .bool fo]) W))
    (tk : (kd == 1) = false) (tk6 : (kd == 6) = false) {p g n cap : Nat} {s0 : Int} (tp : pl = (p : Int)) (hp1 : (p : Int) < (n : Int)) (hn : (n : Int) ≤ 9223372036854775807)
    (HS : Hid (∀ W, P W → W.cell? ⟨X, 0, none⟩ = some (.slice (some ⟨g, 0, none⟩) n cap) ∧ W.cell? ⟨g, p * 10 + 1, none⟩ = some (.int .i64 s0))) (tf : fo = true)
    (HQ : Hid (∀ W, P W → Qp (Ending.returned (.bool (s0 == sp))) W)) :
    Calls Try.prog 30 #[.pointer (some ⟨X, 0, none⟩), .agg #[.int .i64 kd, .int .i64 sv', .int .i64 th, .int .i64 sp, .int .i64 ce, .int .i64 x, .bool ow, .int .i64 ga, .int .i64 er, .int .i64 by_]] w Qp := by
  obtain ⟨c0, c1, c2, c3, c4, c5, c6, c7, c8, c9, c10, _⟩ := CH.out _ hD
  go_enter Try.func30, Try.ntmps30
  go_upto_region 1 with (simp only [hw1, hE])
  go_region_held3 (fun W => W.cell? ⟨E, 0, none⟩ = some (.int .i64 kd) ∧ W.cell? ⟨E, 1, none⟩ = some (.int .i64 sv') ∧ W.cell? ⟨E, 2, none⟩ = some (.int .i64 th) ∧ W.cell? ⟨E, 3, none⟩ = some (.int .i64 sp) ∧ W.cell? ⟨E, 4, none⟩ = some (.int .i64 ce) ∧ W.cell? ⟨E, 5, none⟩ = some (.int .i64 x) ∧ W.cell? ⟨E, 6, none⟩ = some (.bool ow) ∧ W.cell? ⟨E, 7, none⟩ = some (.int .i64 ga) ∧ W.cell? ⟨E, 8, none⟩ = some (.int .i64 er) ∧ W.cell? ⟨E, 9, none⟩ = some (.int .i64 by_) ∧ W.cell? ⟨X, 2, none⟩ = some (.int .i64 st) ∧ P W) (first | exact CH.out _ hD) (first | (go_at_call 44; refine (C1 _ hD).mono ?_; rintro e wx ⟨rfl, hD⟩))
  have hD' := HD.out _ hD
  obtain ⟨c0, c1, c2, c3, c4, c5, c6, c7, c8, c9, c10, _⟩ := CH.out _ hD'
  obtain ⟨c11, hlk⟩ := HL.out _ hD'
  go_upto_region 3 with fail
  go_region
  go_upto_region 6 with fail
  subst tf tp
  obtain ⟨d0, d1⟩ := HS.out _ hD
  obtain ⟨c0, c1, c2, c3, c4, c5, c6, c7, c8, c9, c10, _⟩ := CH.out _ hD
  have hp0 : (0 : Int) ≤ (p : Int) := by omega
  go_quiet (fail)
  go_wp2
  exact HQ.out _ (HN.out _ _ hD')
theorem opR_none {ls : List Pr} {op : Int → Option Nat} (h : OpR ls op) {x : Int} (hx : op x = none) : ∀ p ∈ ls, p.1 ≠ x := by
  rintro ⟨a, b⟩ hp rfl
  obtain ⟨p, h1, _⟩ := (h a b).1 hp
  simp only at hx
  rw [hx] at h1
  cases h1
theorem opR_some {ls : List Pr} {op : Int → Option Nat} (h : OpR ls op) {x : Int} {p : Nat} (hx : op x = some p) : (x, (p : Int)) ∈ ls := (h x p).2 ⟨p, hx, rfl⟩
theorem takes_any {o w : World} {R : List It} {X mb : Nat} {sv : Value} {L : List Sm} {ls : List Pr} {b : Bk} (h : St o (bkL X mb sv L ls b.st R) w) (hL : L.map Sm.s = b.ss) (hO : OpR ls b.op) (hp : ∀ x p, b.op x = some p → p < b.ss.length) (hb : L.length ≤ 9223372036854775807) (v : Ev) :
    Calls Try.prog 30 #[.pointer (some ⟨X, 0, none⟩), evV v] w fun e w' => e = .returned (.bool (b.takes v)) ∧ Kept (fun _ => False) w w' := by
  obtain ⟨kd, sv', th, sp, ce, x, ow, ga, er, by_⟩ := v
  obtain ⟨ss, op, st⟩ := b
  simp only at h hL hO hp
  have s1 := h.box #[.int .i64 kd, .int .i64 sv', .int .i64 th, .int .i64 sp, .int .i64 ce, .int .i64 x, .bool ow, .int .i64 ga, .int .i64 er, .int .i64 by_] 26
  have hk1 := kept_alloc w (.cells #[.int .i64 kd, .int .i64 sv', .int .i64 th, .int .i64 sp, .int .i64 ce, .int .i64 x, .bool ow, .int .i64 ga, .int .i64 er, .int .i64 by_] 26)
  generalize hw1 : w.alloc (.cells #[.int .i64 kd, .int .i64 sv', .int .i64 th, .int .i64 sp, .int .i64 ce, .int .i64 x, .bool ow, .int .i64 ga, .int .i64 er, .int .i64 by_] 26) = w1 at *
  generalize hE : w.heap.size = E at *
  have C1 : ∀ m, Ev.may ⟨kd, sv', th, sp, ce, x, ow, ga, er, by_⟩ = m → ∀ W, Kept (fun _ => False) w1 W → Calls Try.prog 44 #[.agg #[.int .i64 kd, .int .i64 sv', .int .i64 th, .int .i64 sp, .int .i64 ce, .int .i64 x, .bool ow, .int .i64 ga, .int .i64 er, .int .i64 by_]] W fun e w' => e = .returned (.bool m) ∧ Kept (fun _ => False) w1 w' := by
    rintro m rfl W hW
    refine (mayBe_any ⟨kd, sv', th, sp, ce, x, ow, ga, er, by_⟩ W).mono ?_
    rintro e w' ⟨rfl, hk⟩
    exact ⟨rfl, hW.trans hk (fun _ _ f => f)⟩
  have CH : Hid (∀ W, Kept (fun _ => False) w1 W → W.cell? ⟨E, 0, none⟩ = some (.int .i64 kd) ∧ W.cell? ⟨E, 1, none⟩ = some (.int .i64 sv') ∧ W.cell? ⟨E, 2, none⟩ = some (.int .i64 th) ∧ W.cell? ⟨E, 3, none⟩ = some (.int .i64 sp) ∧ W.cell? ⟨E, 4, none⟩ = some (.int .i64 ce) ∧ W.cell? ⟨E, 5, none⟩ = some (.int .i64 x) ∧ W.cell? ⟨E, 6, none⟩ = some (.bool ow) ∧ W.cell? ⟨E, 7, none⟩ = some (.int .i64 ga) ∧ W.cell? ⟨E, 8, none⟩ = some (.int .i64 er) ∧ W.cell? ⟨E, 9, none⟩ = some (.int .i64 by_) ∧ W.cell? ⟨X, 2, none⟩ = some (.int .i64 st) ∧ Kept (fun _ => False) w1 W) := hid (fun W hW => by
    have hs := s1.calm hW
    exact ⟨hs.cell 0 rfl 0, hs.cell 0 rfl 1, hs.cell 0 rfl 2, hs.cell 0 rfl 3, hs.cell 0 rfl 4, hs.cell 0 rfl 5, hs.cell 0 rfl 6, hs.cell 0 rfl 7, hs.cell 0 rfl 8, hs.cell 0 rfl 9, hs.cell 1 rfl 2, hW⟩)
  have HD : Hid (∀ W, Kept (fun _ => False) w1 W → Kept (fun _ => False) w1 W.drew) := hid (fun W hW => hW.drew)
  have HN : Hid (∀ W n, Kept (fun _ => False) w1 W → Kept (fun _ => False) w1 (W.drewN n)) := hid (fun W n hW => ⟨hW.os, hW.tape, hW.output, hW.size, hW.block⟩)
  have HQ : ∀ r, Bk.takes ⟨ss, op, st⟩ ⟨kd, sv', th, sp, ce, x, ow, ga, er, by_⟩ = r → Hid (∀ W, Kept (fun _ => False) w1 W → (fun e w' => e = .returned (.bool (Bk.takes ⟨ss, op, st⟩ ⟨kd, sv', th, sp, ce, x, ow, ga, er, by_⟩)) ∧ Kept (fun _ => False) w w') (Ending.returned (.bool r)) W) := by
    rintro r rfl
    exact hid (fun W hW => ⟨rfl, hk1.trans hW (fun _ _ f => f)⟩)
  have hD := HD.out _ (Kept.refl _ w1)
  cases hm : Ev.may ⟨kd, sv', th, sp, ce, x, ow, ga, er, by_⟩ with
  | false => exact takes_A (mb := mb) (pl := 0) (fo := false) hw1 hE (C1 _ hm) CH hD HD HN (HQ false (by simp [Bk.takes, hm]))
  | true =>
    have hr := may_parts hm
    simp only at hr
    by_cases h1 : sv' < st
    · exact takes_B (mb := mb) (pl := 0) (fo := false) hw1 hE (C1 _ hm) CH hD HD HN h1 (HQ false (by simp [Bk.takes, h1]))
    · have t1 : decide (sv' < st) = false := by simpa using h1
      have hlook : ∃ pl fo, (∀ W, Kept (fun _ => False) w1 W → W.cell? ⟨X, 1, none⟩ = some (.map (some mb)) ∧ (Instr.lookup 63 (.map (some mb)) (.int .i64 th) true).run Try.prog W = .ok (.tuple #[.int .i64 pl, .bool fo]) W) ∧ ((fo = false ∧ op th = none) ∨ (fo = true ∧ ∃ p : Nat, op th = some p ∧ pl = (p : Int))) := by
        cases ho : op th with
        | none => exact ⟨0, false, fun W hW => ⟨(s1.calm hW).cell 1 rfl 1, lookV_none (P := Try.prog) (k := 3) (e := 3) ((s1.calm hW).get 2 rfl) Try.underlying3 Try.underlying63 (Try.zeroInt W) (by omega) (opR_none hO ho)⟩, .inl ⟨rfl, rfl⟩⟩
        | some p => exact ⟨p, true, fun W hW => ⟨(s1.calm hW).cell 1 rfl 1, lookV_some (P := Try.prog) (k := 3) (e := 3) ((s1.calm hW).get 2 rfl) Try.underlying3 Try.underlying63 (opR_some hO ho)⟩, .inr ⟨rfl, p, rfl, rfl⟩⟩
      obtain ⟨pl, fo, hlk, hfo⟩ := hlook
      have HL := hid hlk
      cases k1 : (kd == 1) with
      | true =>
        refine takes_C hw1 hE (C1 _ hm) CH hD HD HN t1 HL k1 (HQ _ ?_)
        rcases hfo with ⟨rfl, ho⟩ | ⟨rfl, p, ho, _⟩ <;> simp [Bk.takes, hm, h1, Bk.goes, ho, Ev.first, k1]
      | false =>
        cases k6 : (kd == 6) with
        | true =>
          refine takes_D hw1 hE (C1 _ hm) CH hD HD HN t1 HL k1 k6 (HQ _ ?_)
          rcases hfo with ⟨rfl, ho⟩ | ⟨rfl, p, ho, _⟩ <;> simp [Bk.takes, hm, h1, Bk.goes, ho, Ev.first, k1, k6]
        | false =>
          rcases hfo with ⟨rfl, ho⟩ | ⟨rfl, p, ho, rfl⟩
          · exact takes_E hw1 hE (C1 _ hm) CH hD HD HN t1 HL k1 k6 rfl (HQ _ (by simp [Bk.takes, Bk.goes, ho, Ev.first, k1, k6]))
          · have hp1 := hp th p ho
            obtain ⟨m, hm1, hm2⟩ := sy_at hL hp1
            have hlen : ss.length = L.length := by rw [← hL, List.length_map]
            obtain ⟨g, cap, rfl⟩ := h.form 2 rfl (show 0 < L.length by omega)
            have HS : Hid (∀ W, Kept (fun _ => False) w1 W → W.cell? ⟨X, 0, none⟩ = some (.slice (some ⟨g, 0, none⟩) L.length cap) ∧ W.cell? ⟨g, p * 10 + 1, none⟩ = some (.int .i64 m.s.sp)) := hid (fun W hW => by
              have hs := s1.calm hW
              exact ⟨hs.cell 1 rfl 0, (hs.ownCell 3 rfl (p * 10 + 1) (by omega)).trans (fl_at (k := 10) (fun _ => rfl) L p 1 m (by omega) hm1)⟩)
            exact takes_F hw1 hE (C1 _ hm) CH hD HD HN t1 HL k1 k6 rfl (by omega) (by omega) HS rfl (HQ _ (by simp [Bk.takes, hm, h1, Bk.goes, ho, Ev.first, k1, k6, hm2]))
set_option maxRecDepth 100000 in
set_option maxHeartbeats 2000000 in
theorem openOf_any {o w : World} {R : List It} {X mb p g cap : Nat} {L : List Sm} {ls : List Pr} {st : Int} (h : St o (bkL X mb (.slice (some ⟨g, 0, none⟩) L.length cap) L ls st R) w) (th : Int) (hm : (th, (p : Int)) ∈ ls) (hp : p < L.length) (hb : L.length ≤ 9223372036854775807) :
    Calls Try.prog 45 #[.pointer (some ⟨X, 0, none⟩), .int .i64 th] w fun e w' => e = .returned (.pointer (some ⟨g, p * 10, none⟩)) ∧ Kept (fun _ => False) w w' := by
  have hs := h.drew
  have c0 : w.drew.cell? ⟨X, 0, none⟩ = some (.slice (some ⟨g, 0, none⟩) L.length cap) := hs.cell 0 rfl 0
  have c1 : w.drew.cell? ⟨X, 1, none⟩ = some (.map (some mb)) := hs.cell 0 rfl 1
  have hl := lookV_plain (P := Try.prog) (t := 63) (k := 3) (e := 3) (show MapV w.drew mb ls from hs.get 1 rfl) Try.underlying3 Try.underlying63 hm
  have hp1 : (p : Int) < (L.length : Int) := by omega
  have hp0 : (0 : Int) ≤ (p : Int) := by omega
  have hb1 : (L.length : Int) ≤ 9223372036854775807 := by omega
  have HK := hid (kept_drew w)
  clear h hs hm hp hb
  generalize L.length = n at *
  go_enter Try.func45, Try.ntmps45
  go_upto_region 1 with fail
  go_region
  go_wp2
  go_ret
  exact ⟨by simp, HK.out⟩
end Go.Proofs.Ytkhbkdabihokjaa
