/- A program by itself as plain data (the document's own machine, P16.8): what each instruction makes of it where nothing is amiss. No program is named here. The document's own machine in memory; top, drop, Sum. The document's Pops, Pushes, at, amiss. The document's own machine: Sum, Wrong. -/
import Derived.Test.YtbpilhjomfkpaaaGreatDoorCdM
import Derived.Test.YtbpilhjomfkpaaaGreatDoorDiL
namespace Go.Proofs.YtbpilhjomfkpaaaGreatDoor
open Go.RowKit
set_option linter.unusedVariables false
set_option linter.unusedSimpArgs false

structure Ow where
  cells : List Int
  place : Int
  stack : List Int
  loc : List Int
  told : List Int
  held : List Int
  inside : Bool
  done : Bool
  e : Int
  tried : Int
  wrote : List Int
def modO (a b : Int) : Int := if b < 1 then 0 else if a.tmod b < 0 then wrap64 (a.tmod b + b) else a.tmod b
def sumO (op a b : Int) : Int :=
  if op = 7 then wrap64 (a + b) else if op = 8 then wrap64 (a - b) else if op = 9 then wrap64 (a * b) else if op = 10 then modO a b
  else if op = 11 then (if a < b then 1 else 0) else if op = 12 then (if a = b then 1 else 0) else 0
/-- The value that lies under so many others. -/
def Ow.top (o : Ow) (k : Nat) : Int := o.stack.getD (o.stack.length - 1 - k) 0
def Ow.less (o : Ow) (k : Nat) : List Int := o.stack.take (o.stack.length - k)
/-- What an instruction makes of it. -/
def Ow.go (o : Ow) (x : Ins) : Ow :=
  if x.op = 1 then { o with stack := o.stack ++ [x.a], place := o.place + 1 }
  else if x.op = 3 then { o with stack := o.stack ++ [o.top 0], place := o.place + 1 }
  else if x.op = 5 then { o with stack := o.stack ++ [o.loc.getD x.a.toNat 0], place := o.place + 1 }
  else if x.op = 6 then { o with loc := o.loc.set x.a.toNat (o.top 0), stack := o.less 1, place := o.place + 1 }
  else if x.op = 7 ∨ x.op = 8 ∨ x.op = 9 ∨ x.op = 10 ∨ x.op = 11 ∨ x.op = 12 then { o with stack := o.less 2 ++ [sumO x.op (o.top 1) (o.top 0)], place := o.place + 1 }
  else if x.op = 13 then { o with stack := o.less 1 ++ [sumO 12 (o.top 0) 0], place := o.place + 1 }
  else if x.op = 14 then { o with place := x.a }
  else if x.op = 15 then { o with stack := o.less 1, place := if o.top 0 = 0 then x.a else o.place + 1 }
  else if x.op = 21 then (if o.inside = true then { o with held := o.held ++ [o.top 0], stack := o.less 1, place := o.place + 1 } else { o with told := o.told ++ [o.top 0], stack := o.less 1, place := o.place + 1 })
  else if x.op = 16 then { o with inside := true, wrote := [], place := o.place + 1 }
  else if x.op = 17 then { o with stack := o.less 1 ++ [o.cells.getD (o.top 0).toNat 0], place := o.place + 1 }
  else if x.op = 18 then { o with wrote := if o.top 1 ∈ o.wrote then o.wrote else o.wrote ++ [o.top 1], cells := o.cells.set (o.top 1).toNat (o.top 0), stack := o.less 2, place := o.place + 1 }
  else if x.op = 19 then { o with inside := false, told := o.told ++ o.held, held := [], place := o.place + 1 }
  else if x.op = 22 then { o with done := true }
  else o
/-- Nothing is amiss. -/
def Ow.may (o : Ow) (x : Ins) : Prop :=
  o.done = false ∧ knownB x.op = true ∧ (rowOf x.op).pops ≤ o.stack.length ∧ (o.stack.length : Int) - (rowOf x.op).pops + (rowOf x.op).pushes ≤ 32 ∧ (x.op = 16 → o.inside = false) ∧ (x.op = 17 ∨ x.op = 18 ∨ x.op = 19 ∨ x.op = 20 → o.inside = true) ∧ (x.op = 22 → o.inside = false) ∧
  (x.op = 5 ∨ x.op = 6 → 0 ≤ x.a ∧ x.a < 8) ∧ (x.op = 17 → 0 ≤ o.top 0 ∧ o.top 0 < o.cells.length) ∧ (x.op = 18 → 0 ≤ o.top 1 ∧ o.top 1 < o.cells.length ∧ (o.top 1 ∈ o.wrote ∨ o.wrote.length < 16))
end Go.Proofs.YtbpilhjomfkpaaaGreatDoor

namespace Go.Proofs.YtbpilhjomfkpaaaGreatDoor
open Go.RowKit
set_option linter.unusedVariables false
set_option linter.unusedSimpArgs false
attribute [local go_sem ↓] Go.wp_at_zero Go.wp_at_succ

/-- Where its parts lie. -/
structure OwV where
  c : Value
  s : Value
  t : Value
  h : Value
  r : Value
  sv : List Value
/-- Its 29 cells. -/
def owL (V : OwV) (o : Ow) : List Value := [V.c, .int .i64 o.place, V.s] ++ (xC o.loc ++ ([V.t, V.h, .bool o.inside, .bool o.done, .int .i64 o.e, .int .i64 o.tried, V.r] ++ V.sv))
/-- Its rows, the stack ahead. -/
def owR (V : OwV) (o : Ow) : List It := [ownI 2 1 V.s o.stack.length (xC o.stack), ownI 2 1 V.c o.cells.length (xC o.cells), ownI 2 1 V.t o.told.length (xC o.told), ownI 2 1 V.h o.held.length (xC o.held), ownI 3 1 V.r o.wrote.length (xC o.wrote)]
/-- It lies there, beside other things. -/
structure OwAt (b : World) (X : Nat) (V : OwV) (o : Ow) (R : List It) (w : World) : Prop where
  st : St b (boxI X (owL V o).toArray 69 :: (owR V o ++ R)) w
  loc : o.loc.length = 8
  sv : V.sv.length = 11
section
variable {b w : World} {X : Nat} {V : OwV} {o : Ow} {R : List It}
theorem own_take {w : World} {base t : Nat} {v : Value} {zs : List Int} (h : w.ownsRow base t 1 v zs.length (xC zs)) (k : Nat) (hk : k ≤ zs.length) (h0 : 0 < zs.length) : ∃ g cap, v = .slice (some ⟨g, 0, none⟩) zs.length cap ∧ zs.length ≤ cap ∧ w.ownsRow base t 1 (.slice (some ⟨g, 0, none⟩) k cap) (zs.take k).length (xC (zs.take k)) := by
  rcases h.2 with ⟨_, hn⟩ | ⟨g, cap, cur, e, hb, hg, hc, hm, hs, ht⟩
  · omega
  · have hl : (zs.take k).length = k := by rw [List.length_take]; omega
    refine ⟨g, cap, e, hc, by rw [xC_length, hl]; omega, .inr ⟨g, cap, cur, by rw [hl], hb, hg, by omega, hm, hs, ?_⟩⟩
    rw [hl]
    rw [Nat.mul_one] at ht ⊢
    have : xC (zs.take k) = (xC zs).take k := by simp [xC]
    rw [this, ← ht, List.take_take, Nat.min_eq_left hk]
theorem OwAt.at (h : OwAt b X V o R w) (j : Nat) {v : Value} (hj : (owL V o)[j]? = some v) : w.cell? ⟨X, j, none⟩ = some v := by
  rw [h.st.cell 0 rfl j]
  simpa using hj
theorem OwAt.frz (h : OwAt b X V o R w) (j : Nat) : w.frozen? ⟨X, j, none⟩ = false := h.st.frozen 0 rfl j
theorem OwAt.drew (h : OwAt b X V o R w) : OwAt b X V o R w.drew := ⟨h.st.drew, h.loc, h.sv⟩
theorem OwAt.calm (h : OwAt b X V o R w) {w' : World} (k : Kept (fun _ => False) w w') : OwAt b X V o R w' := ⟨h.st.calm k, h.loc, h.sv⟩
theorem OwAt.stk (h : OwAt b X V o R w) : w.ownsRow 0 2 1 V.s o.stack.length (xC o.stack) := h.st.get 1 rfl
set_option maxHeartbeats 2000000 in
theorem top_any (h : OwAt b X V o R w) (k : Nat) (hk : k < o.stack.length) : Calls Tryz.prog 57 #[.pointer (some ⟨X, 0, none⟩), .int .i64 k] w fun e w' => e = .returned (.int .i64 (o.top k)) ∧ w' = w.drew := by
  obtain ⟨la, lc, e1, hx, _⟩ := own_xin h.stk
  have c2 : w.drew.cell? ⟨X, 2, none⟩ = some (V.s) := h.drew.at 2 rfl
  obtain ⟨g, o1, rfl⟩ := hx.addr (by omega)
  rw [e1] at c2
  have c3 := (hx.kept (kept_drew w)).cell (j := o.stack.length - 1 - k) (by omega)
  unfold Ow.top
  generalize hz : o.stack.getD (o.stack.length - 1 - k) 0 = z at *
  generalize hn : o.stack.length = n at *
  obtain ⟨j, hj⟩ : ∃ j : Nat, j = n - 1 - k := ⟨_, rfl⟩
  rw [← hj] at c3
  have e2 : (n : Int) - 1 - (k : Int) = (j : Int) := by omega
  have h0 : (0 : Int) ≤ (j : Int) := by omega
  have h1 : (j : Int) < (n : Int) := by omega
  have hnn : (n : Int) ≤ 9223372036854775807 := by
    rcases h.stk.2 with ⟨_, hq⟩ | ⟨g', cap, cur, _, _, _, hc, hm, _⟩
    · omega
    · unfold maxLen at hm; omega
  clear h e1 hx hz hn hj
  go_enter Tryz.func57, Tryz.ntmps57
  go_upto_region 1 with fail
  go_region
  all_goals
    go_wp2
    go_ret
    exact ⟨rfl, rfl⟩
theorem sliceToO (g o n lc i : Nat) (h1 : i ≤ lc) (h2 : 0 < lc) (J : Int) (hJ : J = (i : Int)) (W : World) : (Instr.slice 24 (.slice (some ⟨g, o, none⟩) n lc) none (some (.int .i64 J)) none).run Tryz.prog W = .ok (.slice (some ⟨g, o, none⟩) i lc) W := by
  subst hJ
  have e1 : (0 : Int) ≤ (i : Int) := by omega
  have e2 : (i : Int) ≤ (lc : Int) := by omega
  have e5 : ¬ lc = 0 := by omega
  have e6 : ¬ lc < i := by omega
  simp only [Instr.slice, run_underlying Tryz.underlying24, Instr.sliceBounds, Instr.sliceBound, asIntOf, go_sem]
  simp [go_sem, e1, e2, e5, e6]
/-- The stack's slice is written anew, over a row that it has. -/
theorem OwAt.cutS (h : OwAt b X V o R w) {g cap k : Nat} (e1 : V.s = .slice (some ⟨g, 0, none⟩) o.stack.length cap) (hp : w.ownsRow 0 2 1 (.slice (some ⟨g, 0, none⟩) k cap) (o.stack.take k).length (xC (o.stack.take k))) : OwAt b X { V with s := .slice (some ⟨g, 0, none⟩) k cap } { o with stack := o.stack.take k } R (w.setCell ⟨X, 2, none⟩ (.slice (some ⟨g, 0, none⟩) k cap)) := by
  have s1 := h.st.set 1 rfl (A' := ownI 2 1 (.slice (some ⟨g, 0, none⟩) k cap) (o.stack.take k).length (xC (o.stack.take k))) (Kept.refl _ w) hp (own_nodup (.slice (some ⟨g, 0, none⟩) k cap)) (fun c hc => .inl (by
    rw [e1]
    simpa [ownI, Value.ownBlock] using hc))
  have s2 := s1.write 0 rfl 2 (.slice (some ⟨g, 0, none⟩) k cap)
  exact ⟨s2, h.loc, h.sv⟩
set_option maxHeartbeats 2000000 in
theorem drop_any (h : OwAt b X V o R w) (k : Nat) (hk : k ≤ o.stack.length) (h0 : 0 < o.stack.length) : Calls Tryz.prog 56 #[.pointer (some ⟨X, 0, none⟩), .int .i64 k] w fun e w' => e = .returned (.tuple #[]) ∧ ∃ s', OwAt b X { V with s := s' } { o with stack := o.less k } R w' := by
  obtain ⟨g, cap, e1, hc, hp⟩ := own_take h.stk (o.stack.length - k) (by omega) h0
  have c2 : w.drew.cell? ⟨X, 2, none⟩ = some (V.s) := h.drew.at 2 rfl
  have f2 : w.drew.frozen? ⟨X, 2, none⟩ = false := h.drew.frz 2
  rw [e1] at c2
  have HS := hid (h.drew.cutS e1 (own_loc hp (fun _ _ => rfl)))
  have hmx : o.stack.length ≤ maxLen := by
    rcases h.stk.2 with ⟨_, hq⟩ | ⟨g', cap, cur, _, _, _, hc, hm, _⟩
    · omega
    · omega
  unfold Ow.less
  have hb0 : (0 : Int) ≤ (o.stack.length : Int) - (k : Int) := by omega
  have hb1 : (o.stack.length : Int) - (k : Int) ≤ (cap : Int) := by omega
  generalize o.stack.length = n at *
  have hcz : ¬ cap = 0 := by omega
  unfold maxLen at hmx
  have hw1 : IntKind.i64.wrap ((n : Int) - (k : Int)) = ((n - k : Nat) : Int) := by
    rw [IntKind.wrap_i64]
    omega
  have hw2 : wrap64 ((n : Int) - (k : Int)) = ((n - k : Nat) : Int) := by unfold wrap64; omega
  have hb3 : ((n - k : Nat) : Int) ≤ (cap : Int) := by omega
  have hcl : ¬ (cap : Int) < (n : Int) - (k : Int) := by omega
  clear h hp e1
  go_enter Tryz.func56, Tryz.ntmps56
  go_upto_region 0 with fail
  go_region
  all_goals
    go_wp2
    go_end0
    exact ⟨rfl, _, HS.out⟩
end
end Go.Proofs.YtbpilhjomfkpaaaGreatDoor

namespace Go.Proofs.YtbpilhjomfkpaaaGreatDoor
open Go.RowKit
set_option linter.unusedVariables false
set_option linter.unusedSimpArgs false
attribute [local go_sem ↓] Go.wp_at_zero Go.wp_at_succ

set_option maxRecDepth 100000 in
theorem rPops_any : ∀ (m : Nat) (w : World), m < 23 → Calls Tryz.prog 77 #[.int .i64 m] w fun e w' => e = .returned (.int .i64 (rowOf (m : Nat)).pops) ∧ w' = w := by
  intro m w hm
  have hall : ∀ k : Nat, k < 23 → (k : Int) = m → Calls Tryz.prog 77 #[.int .i64 (k : Int)] w fun e w' => e = .returned (.int .i64 (rowOf (k : Nat)).pops) ∧ w' = w := by
    intro k hk _
    match k, hk with
    | 0, _ => go_enter Tryz.func77, Tryz.ntmps77; go_wp2; go_ret; exact ⟨rfl, rfl⟩
    | 1, _ => go_enter Tryz.func77, Tryz.ntmps77; go_wp2; go_ret; exact ⟨rfl, rfl⟩
    | 2, _ => go_enter Tryz.func77, Tryz.ntmps77; go_wp2; go_ret; exact ⟨rfl, rfl⟩
    | 3, _ => go_enter Tryz.func77, Tryz.ntmps77; go_wp2; go_ret; exact ⟨rfl, rfl⟩
    | 4, _ => go_enter Tryz.func77, Tryz.ntmps77; go_wp2; go_ret; exact ⟨rfl, rfl⟩
    | 5, _ => go_enter Tryz.func77, Tryz.ntmps77; go_wp2; go_ret; exact ⟨rfl, rfl⟩
    | 6, _ => go_enter Tryz.func77, Tryz.ntmps77; go_wp2; go_ret; exact ⟨rfl, rfl⟩
    | 7, _ => go_enter Tryz.func77, Tryz.ntmps77; go_wp2; go_ret; exact ⟨rfl, rfl⟩
    | 8, _ => go_enter Tryz.func77, Tryz.ntmps77; go_wp2; go_ret; exact ⟨rfl, rfl⟩
    | 9, _ => go_enter Tryz.func77, Tryz.ntmps77; go_wp2; go_ret; exact ⟨rfl, rfl⟩
    | 10, _ => go_enter Tryz.func77, Tryz.ntmps77; go_wp2; go_ret; exact ⟨rfl, rfl⟩
    | 11, _ => go_enter Tryz.func77, Tryz.ntmps77; go_wp2; go_ret; exact ⟨rfl, rfl⟩
    | 12, _ => go_enter Tryz.func77, Tryz.ntmps77; go_wp2; go_ret; exact ⟨rfl, rfl⟩
    | 13, _ => go_enter Tryz.func77, Tryz.ntmps77; go_wp2; go_ret; exact ⟨rfl, rfl⟩
    | 14, _ => go_enter Tryz.func77, Tryz.ntmps77; go_wp2; go_ret; exact ⟨rfl, rfl⟩
    | 15, _ => go_enter Tryz.func77, Tryz.ntmps77; go_wp2; go_ret; exact ⟨rfl, rfl⟩
    | 16, _ => go_enter Tryz.func77, Tryz.ntmps77; go_wp2; go_ret; exact ⟨rfl, rfl⟩
    | 17, _ => go_enter Tryz.func77, Tryz.ntmps77; go_wp2; go_ret; exact ⟨rfl, rfl⟩
    | 18, _ => go_enter Tryz.func77, Tryz.ntmps77; go_wp2; go_ret; exact ⟨rfl, rfl⟩
    | 19, _ => go_enter Tryz.func77, Tryz.ntmps77; go_wp2; go_ret; exact ⟨rfl, rfl⟩
    | 20, _ => go_enter Tryz.func77, Tryz.ntmps77; go_wp2; go_ret; exact ⟨rfl, rfl⟩
    | 21, _ => go_enter Tryz.func77, Tryz.ntmps77; go_wp2; go_ret; exact ⟨rfl, rfl⟩
    | 22, _ => go_enter Tryz.func77, Tryz.ntmps77; go_wp2; go_ret; exact ⟨rfl, rfl⟩
    | n + 23, h => exact absurd h (by omega)
  exact hall m hm rfl
set_option maxRecDepth 100000 in
theorem rPushes_any : ∀ (m : Nat) (w : World), m < 23 → Calls Tryz.prog 78 #[.int .i64 m] w fun e w' => e = .returned (.int .i64 (rowOf (m : Nat)).pushes) ∧ w' = w := by
  intro m w hm
  have hall : ∀ k : Nat, k < 23 → (k : Int) = m → Calls Tryz.prog 78 #[.int .i64 (k : Int)] w fun e w' => e = .returned (.int .i64 (rowOf (k : Nat)).pushes) ∧ w' = w := by
    intro k hk _
    match k, hk with
    | 0, _ => go_enter Tryz.func78, Tryz.ntmps78; go_wp2; go_ret; exact ⟨rfl, rfl⟩
    | 1, _ => go_enter Tryz.func78, Tryz.ntmps78; go_wp2; go_ret; exact ⟨rfl, rfl⟩
    | 2, _ => go_enter Tryz.func78, Tryz.ntmps78; go_wp2; go_ret; exact ⟨rfl, rfl⟩
    | 3, _ => go_enter Tryz.func78, Tryz.ntmps78; go_wp2; go_ret; exact ⟨rfl, rfl⟩
    | 4, _ => go_enter Tryz.func78, Tryz.ntmps78; go_wp2; go_ret; exact ⟨rfl, rfl⟩
    | 5, _ => go_enter Tryz.func78, Tryz.ntmps78; go_wp2; go_ret; exact ⟨rfl, rfl⟩
    | 6, _ => go_enter Tryz.func78, Tryz.ntmps78; go_wp2; go_ret; exact ⟨rfl, rfl⟩
    | 7, _ => go_enter Tryz.func78, Tryz.ntmps78; go_wp2; go_ret; exact ⟨rfl, rfl⟩
    | 8, _ => go_enter Tryz.func78, Tryz.ntmps78; go_wp2; go_ret; exact ⟨rfl, rfl⟩
    | 9, _ => go_enter Tryz.func78, Tryz.ntmps78; go_wp2; go_ret; exact ⟨rfl, rfl⟩
    | 10, _ => go_enter Tryz.func78, Tryz.ntmps78; go_wp2; go_ret; exact ⟨rfl, rfl⟩
    | 11, _ => go_enter Tryz.func78, Tryz.ntmps78; go_wp2; go_ret; exact ⟨rfl, rfl⟩
    | 12, _ => go_enter Tryz.func78, Tryz.ntmps78; go_wp2; go_ret; exact ⟨rfl, rfl⟩
    | 13, _ => go_enter Tryz.func78, Tryz.ntmps78; go_wp2; go_ret; exact ⟨rfl, rfl⟩
    | 14, _ => go_enter Tryz.func78, Tryz.ntmps78; go_wp2; go_ret; exact ⟨rfl, rfl⟩
    | 15, _ => go_enter Tryz.func78, Tryz.ntmps78; go_wp2; go_ret; exact ⟨rfl, rfl⟩
    | 16, _ => go_enter Tryz.func78, Tryz.ntmps78; go_wp2; go_ret; exact ⟨rfl, rfl⟩
    | 17, _ => go_enter Tryz.func78, Tryz.ntmps78; go_wp2; go_ret; exact ⟨rfl, rfl⟩
    | 18, _ => go_enter Tryz.func78, Tryz.ntmps78; go_wp2; go_ret; exact ⟨rfl, rfl⟩
    | 19, _ => go_enter Tryz.func78, Tryz.ntmps78; go_wp2; go_ret; exact ⟨rfl, rfl⟩
    | 20, _ => go_enter Tryz.func78, Tryz.ntmps78; go_wp2; go_ret; exact ⟨rfl, rfl⟩
    | 21, _ => go_enter Tryz.func78, Tryz.ntmps78; go_wp2; go_ret; exact ⟨rfl, rfl⟩
    | 22, _ => go_enter Tryz.func78, Tryz.ntmps78; go_wp2; go_ret; exact ⟨rfl, rfl⟩
    | n + 23, h => exact absurd h (by omega)
  exact hall m hm rfl
end Go.Proofs.YtbpilhjomfkpaaaGreatDoor

namespace Go.Proofs.YtbpilhjomfkpaaaGreatDoor
open Go.RowKit
set_option linter.unusedVariables false
set_option linter.unusedSimpArgs false
attribute [local go_sem ↓] Go.wp_at_zero Go.wp_at_succ

section
variable {w : World}
theorem Sum_any (op : Nat) (a b : Int) (ho : op = 7 ∨ op = 8 ∨ op = 9 ∨ op = 11 ∨ op = 12) (w : World) : Calls Tryz.prog 58 #[.int .i64 op, .int .i64 a, .int .i64 b] w fun e w' => e = .returned (.int .i64 (sumO op a b)) ∧ w' = w := by
  rcases ho with rfl | rfl | rfl | rfl | rfl
  · show Calls _ _ _ _ fun e w' => e = .returned (.int .i64 (wrap64 (a + b))) ∧ w' = w
    go_enter Tryz.func58, Tryz.ntmps58
    go_wp2
    go_ret
    exact ⟨rfl, rfl⟩
  · show Calls _ _ _ _ fun e w' => e = .returned (.int .i64 (wrap64 (a - b))) ∧ w' = w
    go_enter Tryz.func58, Tryz.ntmps58
    go_wp2
    go_ret
    exact ⟨rfl, rfl⟩
  · show Calls _ _ _ _ fun e w' => e = .returned (.int .i64 (wrap64 (a * b))) ∧ w' = w
    go_enter Tryz.func58, Tryz.ntmps58
    go_wp2
    go_ret
    exact ⟨rfl, rfl⟩
  · show Calls _ _ _ _ fun e w' => e = .returned (.int .i64 (if a < b then 1 else 0)) ∧ w' = w
    by_cases h : a < b
    · rw [if_pos h]
      have t : decide (a < b) = true := decide_eq_true h
      clear h
      go_enter Tryz.func58, Tryz.ntmps58
      go_wp2
      go_ret
      exact ⟨rfl, rfl⟩
    · rw [if_neg h]
      have t : decide (a < b) = false := decide_eq_false h
      clear h
      go_enter Tryz.func58, Tryz.ntmps58
      go_wp2
      go_ret
      exact ⟨rfl, rfl⟩
  · show Calls _ _ _ _ fun e w' => e = .returned (.int .i64 (if a = b then 1 else 0)) ∧ w' = w
    by_cases h : a = b
    · rw [if_pos h]
      have t : (a == b) = true := by simp [h]
      clear h
      go_enter Tryz.func58, Tryz.ntmps58
      go_wp2
      go_ret
      exact ⟨rfl, rfl⟩
    · rw [if_neg h]
      have t : (a == b) = false := by simp [h]
      clear h
      go_enter Tryz.func58, Tryz.ntmps58
      go_wp2
      go_ret
      exact ⟨rfl, rfl⟩
set_option maxHeartbeats 2000000 in
/-- Nothing is amiss ahead of what is asked of cells. -/
theorem Wrong_any (op d : Nat) (i : Bool) (ho : op < 23) (h1 : (rowOf (op : Nat)).pops ≤ d) (h2 : (d : Int) - (rowOf (op : Nat)).pops + (rowOf (op : Nat)).pushes ≤ 32) (h3 : op = 16 → i = false) (h4 : op = 17 ∨ op = 18 ∨ op = 19 ∨ op = 20 → i = true) (h5 : op = 22 → i = false) (hd : d ≤ 1000) (w : World) :
    Calls Tryz.prog 53 #[.int .i64 op, .int .i64 d, .bool i] w fun e w' => e = .returned (.int .i64 0) ∧ w' = w := by
  have q1 := fun W => rPops_any op W ho
  have q2 := fun W => rPushes_any op W ho
  have hp : 0 ≤ (rowOf (op : Nat)).pops ∧ (rowOf (op : Nat)).pops ≤ 10 ∧ 0 ≤ (rowOf (op : Nat)).pushes ∧ (rowOf (op : Nat)).pushes ≤ 10 := by
    have : ∀ k : Nat, k < 23 → 0 ≤ (rowOf (k : Nat)).pops ∧ (rowOf (k : Nat)).pops ≤ 10 ∧ 0 ≤ (rowOf (k : Nat)).pushes ∧ (rowOf (k : Nat)).pushes ≤ 10 := by decide
    exact this op ho
  generalize (rowOf (op : Nat)).pops = p at *
  generalize (rowOf (op : Nat)).pushes = q at *
  have t1 : decide ((d : Int) < p) = false := decide_eq_false (by omega)
  have t2 : decide ((32 : Int) < (d : Int) - p + q) = false := decide_eq_false (by omega)
  by_cases e16 : op = 16
  · subst e16
    obtain rfl := h3 rfl
    clear h3 h4 h5 ho
    go_enter Tryz.func53, Tryz.ntmps53
    go_wp2_with (first | (go_at_call 77; refine (q1 _).mono ?_; rintro e w' ⟨rfl, rfl⟩) | (go_at_call 78; refine (q2 _).mono ?_; rintro e w' ⟨rfl, rfl⟩))
    go_ret
    exact ⟨rfl, rfl⟩
  · have g16 : ((op : Int) == 16) = false := by simp; omega
    by_cases e17 : op = 17
    · subst e17
      obtain rfl := h4 (by decide)
      clear h3 h4 h5 ho
      go_enter Tryz.func53, Tryz.ntmps53
      go_wp2_with (first | (go_at_call 77; refine (q1 _).mono ?_; rintro e w' ⟨rfl, rfl⟩) | (go_at_call 78; refine (q2 _).mono ?_; rintro e w' ⟨rfl, rfl⟩))
      go_ret
      exact ⟨rfl, rfl⟩
    · have g17 : ((op : Int) == 17) = false := by simp; omega
      by_cases e18 : op = 18
      · subst e18
        obtain rfl := h4 (by decide)
        clear h3 h4 h5 ho
        go_enter Tryz.func53, Tryz.ntmps53
        go_wp2_with (first | (go_at_call 77; refine (q1 _).mono ?_; rintro e w' ⟨rfl, rfl⟩) | (go_at_call 78; refine (q2 _).mono ?_; rintro e w' ⟨rfl, rfl⟩))
        go_ret
        exact ⟨rfl, rfl⟩
      · have g18 : ((op : Int) == 18) = false := by simp; omega
        by_cases e19 : op = 19
        · subst e19
          obtain rfl := h4 (by decide)
          clear h3 h4 h5 ho
          go_enter Tryz.func53, Tryz.ntmps53
          go_wp2_with (first | (go_at_call 77; refine (q1 _).mono ?_; rintro e w' ⟨rfl, rfl⟩) | (go_at_call 78; refine (q2 _).mono ?_; rintro e w' ⟨rfl, rfl⟩))
          go_ret
          exact ⟨rfl, rfl⟩
        · have g19 : ((op : Int) == 19) = false := by simp; omega
          by_cases e20 : op = 20
          · subst e20
            obtain rfl := h4 (by decide)
            clear h3 h4 h5 ho
            go_enter Tryz.func53, Tryz.ntmps53
            go_wp2_with (first | (go_at_call 77; refine (q1 _).mono ?_; rintro e w' ⟨rfl, rfl⟩) | (go_at_call 78; refine (q2 _).mono ?_; rintro e w' ⟨rfl, rfl⟩))
            go_ret
            exact ⟨rfl, rfl⟩
          · have g20 : ((op : Int) == 20) = false := by simp; omega
            by_cases e22 : op = 22
            · subst e22
              obtain rfl := h5 rfl
              clear h3 h4 h5 ho
              go_enter Tryz.func53, Tryz.ntmps53
              go_wp2_with (first | (go_at_call 77; refine (q1 _).mono ?_; rintro e w' ⟨rfl, rfl⟩) | (go_at_call 78; refine (q2 _).mono ?_; rintro e w' ⟨rfl, rfl⟩))
              go_ret
              exact ⟨rfl, rfl⟩
            · have g22 : ((op : Int) == 22) = false := by simp; omega
              clear h3 h4 h5 ho e16 e17 e18 e19 e20 e22
              go_enter Tryz.func53, Tryz.ntmps53
              go_wp2_with (first | (go_at_call 77; refine (q1 _).mono ?_; rintro e w' ⟨rfl, rfl⟩) | (go_at_call 78; refine (q2 _).mono ?_; rintro e w' ⟨rfl, rfl⟩))
              go_ret
              exact ⟨rfl, rfl⟩
end
end Go.Proofs.YtbpilhjomfkpaaaGreatDoor
