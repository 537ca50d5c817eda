/- Package set: where links lead: nodes, isNode, linkAt, keyAt, walk. -/
import Derived.Test.YtdfefjalamohjaaGreatDoorXs
import Derived.Test.YtdfefjalamohjaaGreatDoorLyM
import Derived.Deep.RegionHeld3
import Derived.RangeFuncBound
import Derived.Shelf.Abstract
import Derived.Shelf.RegionOpen
import Derived.WalkKit
import Derived.OwnWalkIn
import Derived.TacticsInMore
import Derived.LoopNIn
import Derived.LoopIn
import Derived.Sort.LoopGhostIn
namespace Go.Proofs.YtdfefjalamohjaaGreatDoor
open Go.RowKit Go.Shelf
set_option linter.unusedVariables false
set_option linter.unusedSimpArgs false
attribute [local go_sem ↓] Go.wp_at_zero Go.wp_at_succ
attribute [local go_sem] Oper.semAt_some

theorem quo_two (n : Nat) (h : n ≤ 60) : (((3 + 2 * n : Nat) : Int) - 2).tdiv 2 = (n : Int) := by
  rw [Int.tdiv_eq_ediv_of_nonneg (by omega)]
  omega
set_option maxHeartbeats 1000000 in
theorem nodes_any (la : Option Addr) (n lc : Nat) (hn : n ≤ 60) (w : World) : Calls Tryz.prog 56 #[.slice la (3 + 2 * n) lc] w fun e w' => e = .returned (.int .i64 n) ∧ w' = w := by
  have hq : (((3 + 2 * n : Nat) : Int) - 2) / 2 = (n : Int) := by omega
  have h0 : (0 : Int) ≤ ((3 + 2 * n : Nat) : Int) - 2 := by omega
  have hq' := quo_two n hn
  have h1 : ((3 + 2 * n : Nat) : Int) ≤ 123 := by omega
  generalize hm : 3 + 2 * n = m at *
  clear hm
  go_enter Tryz.func56, Tryz.ntmps56
  go_wp2
  go_ret
  first | exact ⟨by rw [hq], rfl⟩ | exact ⟨by rw [hq'], rfl⟩ | exact ⟨rfl, rfl⟩
set_option maxHeartbeats 1000000 in
theorem isNode_any (la : Option Addr) (n lc : Nat) (hn : n ≤ 60) (k : Int) (w : World) : Calls Tryz.prog 58 #[.slice la (3 + 2 * n) lc, .int .i64 k] w fun e w' => e = .returned (.bool (isN n k)) ∧ w' = w := by
  have hN := nodes_any la n lc hn w
  generalize 3 + 2 * n = m at *
  unfold isN
  by_cases h1 : 1 ≤ k
  · by_cases h2 : k ≤ (n : Int)
    · have t1 : decide (1 ≤ k) = true := by simpa using h1
      have t2 : decide (k ≤ (n : Int)) = true := by simpa using h2
      clear h1 h2
      go_enter Tryz.func58, Tryz.ntmps58
      go_wp2_with (go_at_call 56; refine hN.mono ?_; rintro e w1 ⟨rfl, rfl⟩)
      go_ret
      exact ⟨by simp [t1, t2], rfl⟩
    · have t1 : decide (1 ≤ k) = true := by simpa using h1
      have t2 : decide (k ≤ (n : Int)) = false := by simpa using h2
      clear h1 h2
      go_enter Tryz.func58, Tryz.ntmps58
      go_wp2_with (go_at_call 56; refine hN.mono ?_; rintro e w1 ⟨rfl, rfl⟩)
      go_ret
      exact ⟨by simp [t1, t2], rfl⟩
  · have t1 : decide (1 ≤ k) = false := by simpa using h1
    clear h1
    go_enter Tryz.func58, Tryz.ntmps58
    go_wp2_with (go_at_call 56; refine hN.mono ?_; rintro e w1 ⟨rfl, rfl⟩)
    go_ret
    exact ⟨by simp [t1], rfl⟩
theorem linkAt_any (k : Nat) (hk : k ≤ 60) (w : World) : Calls Tryz.prog 31 #[.int .i64 k] w fun e w' => e = .returned (.int .i64 ((2 + 2 * k : Nat) : Int)) ∧ w' = w := by
  have h0 : (0 : Int) ≤ (k : Int) := by omega
  have h1 : (k : Int) ≤ 60 := by omega
  go_enter Tryz.func31, Tryz.ntmps31
  go_wp2
  go_ret
  exact ⟨by congr 2, rfl⟩
theorem keyAt_any (k : Nat) (hk : k ≤ 60) (w : World) : Calls Tryz.prog 60 #[.int .i64 k] w fun e w' => e = .returned (.int .i64 ((1 + 2 * k : Nat) : Int)) ∧ w' = w := by
  have h0 : (0 : Int) ≤ (k : Int) := by omega
  have h1 : (k : Int) ≤ 60 := by omega
  go_enter Tryz.func60, Tryz.ntmps60
  go_wp2
  go_ret
  refine ⟨?_, rfl⟩
  have e : (2 : Int) + 2 * (k : Int) - 1 = ((1 + 2 * k : Nat) : Int) := by omega
  rw [← e]
  rfl
theorem box_at {o w : World} {its : List It} (h : St o its w) {k : Nat} {cs : Array Value} {t : TypeId} (hm : boxI k cs t ∈ its) (j : Nat) : w.cell? ⟨k, j, none⟩ = cs[j]? := cell_of_heap (h.all _ hm)
theorem box_free {o w : World} {its : List It} (h : St o its w) {k : Nat} {cs : Array Value} {t : TypeId} (hm : boxI k cs t ∈ its) (j : Nat) : w.frozen? ⟨k, j, none⟩ = false := frozen_of_heap (h.all _ hm)
set_option maxHeartbeats 1000000 in
theorem walk_any {o w : World} {R : List It} (h : St o R w) (la : Option Addr) (m lc : Nat) (f : Int) : Calls Tryz.prog 57 #[.slice la m lc, .int .i64 f] w fun e w' =>
    ∃ bf bp, e = .returned (.func (.func 78) #[] #[.pointer (some ⟨bf, 0, none⟩), .pointer (some ⟨bp, 0, none⟩)]) ∧ St o (boxI bf #[.int .i64 f] 2 :: boxI bp #[.slice la m lc] 24 :: R) w' := by
  have HS := hid ((h.box #[.slice la m lc] 24).box #[.int .i64 f] 2)
  rw [alloc_size] at HS
  clear h
  go_enter Tryz.func57, Tryz.ntmps57
  go_wp2
  go_ret
  exact ⟨_, _, rfl, HS.out⟩
/-- What walk hands on. -/
abbrev wkRq (bf bp g off n lc : Nat) (f : Int) : List It := [boxI bf #[.int .i64 f] 2, boxI bp #[.slice (some ⟨g, off, none⟩) (3 + 2 * n) lc] 24]
set_option maxRecDepth 100000 in
set_option maxHeartbeats 4000000 in
theorem walk_tells {o : World} {g off lc n : Nat} {L : List Int} (hX : XIn o (some ⟨g, off, none⟩) (3 + 2 * n) L) (hn : n ≤ 60) (bf bp : Nat) (f : Int) :
    Tells Tryz.prog o 78 #[.pointer (some ⟨bf, 0, none⟩), .pointer (some ⟨bp, 0, none⟩)] (Value.int .i64) (fun pre x => Tr L n f pre x ∧ x ≠ 0) (fun xs => Tr L n f xs 0) (fun pre => ∃ p x, pre = p ++ [x] ∧ Tr L n f p x ∧ x ≠ 0) (wkRq bf bp g off n lc f) := by
  generalize hRQ : wkRq bf bp g off n lc f = RQ
  intro l K Kx T N W hN hY h0
  show CallsIn _ _ _ _ #[.func (.yield l) #[] #[], .pointer (some ⟨bf, 0, none⟩), .pointer (some ⟨bp, 0, none⟩)] _ _
  have HN : ∀ pre W', Sat o K (RQ ++ T) pre W' → pre.length ≤ N := fun pre W' hs => by
    obtain ⟨X, hK, _⟩ := hs
    exact hN pre X hK
  have HF : ∀ pre W', Sat o K (RQ ++ T) pre W' → W'.cell? ⟨bf, 0, none⟩ = some (.int .i64 f) ∧ W'.cell? ⟨bp, 0, none⟩ = some (.slice (some ⟨g, off, none⟩) (3 + 2 * n) lc) ∧ ∀ j, j < 3 + 2 * n → W'.cell? ⟨g, off + j, none⟩ = some (.int .i64 (L.getD j 0)) := fun pre W' hs => by
    obtain ⟨X, _, hs⟩ := hs
    subst hRQ
    exact ⟨box_at hs (k := bf) (cs := #[.int .i64 f]) (t := 2) (by simp) 0, box_at hs (k := bp) (cs := #[.slice (some ⟨g, off, none⟩) (3 + 2 * n) lc]) (t := 24) (by simp) 0, fun j hj => (hX.kept hs.same).cell hj⟩
  have c0 := (HF [] W h0).1
  have hi := hid fun (k : Int) (w : World) => isNode_any (some ⟨g, off, none⟩) n lc hn k w
  clear hRQ
  replace HF := hid HF
  replace HN := hid HN
  replace hY := hid hY
  replace hN := hid hN
  generalize hm : 3 + 2 * n = m at *
  have hm := hid hm
  have hf1 : Fence.wide.fn 58 := trivial
  have hf2 : Fence.wide.fn 31 := trivial
  refine callsIn_of_wp Tryz.func78 rfl trivial ?_ rfl
  simp only [Tryz.ntmps78, List.size_toArray, List.length_cons, List.length_nil, Nat.reduceAdd, Nat.reduceSub, Array.replicate_succ, Array.replicate_zero, List.push_toArray, List.append_toArray, List.nil_append, List.cons_append]
  gi_wp2
  clear c0
  gi_loopg [4] (N + 1) (fun k v wr => ∃ (pre : List Int) (x : Int), v = .int .i64 x ∧ Tr L n f pre x ∧ Sat o K (RQ ++ T) pre wr ∧ k + pre.length = N + 1)
  case atStart => exact ⟨[], f, rfl, rfl, h0, by simp⟩
  case round =>
    obtain ⟨pre, x, rfl, hT, hS, hk⟩ := hrel
    have hk := hid hk
    by_cases hx : x = 0
    · subst hx
      gi_wp2
      refine ⟨fun _ h => (by cases h), ?_⟩
      gi_wp2
      go_end0
      exact ⟨⟨_, rfl⟩, .inl ⟨pre, hT, hS⟩⟩
    · obtain ⟨fn, tmps, assign, body, hy, hR⟩ := hY.out T pre x wr ⟨hT, hx⟩ hS
      have t1 : (x == 0) = false := by simpa using hx
      have t2 : (x != 0) = true := by simpa using hx
      have hT2 := hT.snoc hx
      replace hx := hid hx
      gi_wp2
      refine (roundIn_any hR).mono ?_
      rintro e W3 (⟨rfl, hS3⟩ | ⟨rfl, hS3⟩)
      · have c1 := (HF.out _ _ hS3).2.1
        have c2 := (HF.out _ _ hS3).2.2
        have hlen := HN.out _ _ hS3
        clear hR hy
        have hi3 := hi.out x W3
        cases hb : isN n x with
        | false =>
          rw [hb] at hi3
          have hz : nxtM L n x = 0 := by simp [nxtM, hb]
          rw [hz] at hT2
          clear hb hz
          gi_wp2_with (gi_at_call 58; refine (callsIn_wide.2 hi3).mono ?_; rintro e w' ⟨rfl, rfl⟩)
          go_end0
          exact ⟨⟨_, rfl⟩, .inl ⟨pre ++ [x], hT2, hS3⟩⟩
        | true =>
          rw [hb] at hi3
          have hz : nxtM L n x = lnkM L x := by simp [nxtM, hb]
          rw [hz] at hT2
          obtain ⟨hx1, hx2⟩ := isN_iff.1 hb
          obtain ⟨kx, rfl⟩ : ∃ kx : Nat, x = (kx : Int) := ⟨x.toNat, by omega⟩
          have hl := linkAt_any kx (by omega)
          have c3 := c2 (2 + 2 * kx) (by have := hm.out; omega)
          have hb1 : ((2 + 2 * kx : Nat) : Int) < (m : Int) := by have := hm.out; omega
          have hb0 : (0 : Int) ≤ ((2 + 2 * kx : Nat) : Int) := by omega
          have e3 : lnkM L (kx : Int) = L.getD (2 + 2 * kx) 0 := by simp [lnkM]
          rw [e3] at hT2
          generalize L.getD (2 + 2 * kx) 0 = y at *
          clear hb hz e3
          generalize hq : 2 + 2 * kx = q at *
          clear hq
          have d1 : W3.drew.cell? ⟨bp, 0, none⟩ = some (.slice (some ⟨g, off, none⟩) m lc) := c1
          have d3 : W3.drew.cell? ⟨g, off + q, none⟩ = some (.int .i64 y) := c3
          have hmx : (Tryz.prog).follows .mixedOrders = true := by kernel_rfl
          gi_wp2_with (gi_at_call 58; refine (callsIn_wide.2 hi3).mono ?_; rintro e w' ⟨rfl, rfl⟩)
          gi_region_with_o (gi_at_call 31; refine (callsIn_wide.2 (hl _)).mono ?_; rintro e w' ⟨rfl, rfl⟩)
          all_goals gi_wp2
          all_goals
            gi_roundg (gk - 1)
            case rel => exact ⟨pre ++ [(kx : Int)], y, rfl, hT2, (by obtain ⟨X, hK, hs⟩ := hS3; exact ⟨X, hK, hs.drew⟩), by have := hk.out; simp only [List.length_append, List.length_cons, List.length_nil] at hlen ⊢; omega⟩
            case measure => have := hk.out; simp only [List.length_append, List.length_cons, List.length_nil] at hlen; omega
      · gi_wp2
        go_end0
        exact ⟨⟨_, rfl⟩, .inr ⟨pre ++ [x], ⟨pre, x, rfl, hT, hx.out⟩, hS3⟩⟩
end Go.Proofs.YtdfefjalamohjaaGreatDoor
