/- What follows of signatures: there and back, parts that make up the whole, counts. No program but its contracts is named here. -/
import Derived.Test.YtbbllmhnhhbpiaaDoorTold
namespace Go.Proofs.YtbbllmhnhhbpiaaDoor
open Go.RowKit
set_option linter.unusedVariables false
set_option linter.unusedSimpArgs false

theorem fromGo_puts (l : List Nat) (h : ∀ b ∈ l, b < 128) (s : Sg) (hs : s.ok) : ∃ t : Sg, fromGo (l.map fun b : Nat => (b : Int)) s = (t, 0) ∧ t.ok ∧ ∀ k, k < 128 → t.has k = (s.has k || l.contains k) := by
  induction l generalizing s with
  | nil => exact ⟨s, rfl, hs, fun k hk => by simp⟩
  | cons b l ih =>
    have hb : b < 128 := h b (List.mem_cons_self ..)
    obtain ⟨t, e, ht, hk⟩ := ih (fun x hx => h x (List.mem_cons_of_mem _ hx)) (s.put b) (Sg.ok_put hs hb)
    refine ⟨t, ?_, ht, fun k hk2 => ?_⟩
    · simp only [List.map_cons, fromGo]
      rw [if_pos (by omega), Int.toNat_natCast]
      exact e
    · rw [hk k hk2, Sg.has_put hb k hk2, List.contains_cons]
      have : (k == b) = decide (k = b) := by rw [Bool.eq_iff_iff]; simp
      rw [this, Bool.or_assoc]

theorem from_bits (a : Sg) (ha : a.ok) : fromGo (a.bits.map fun b : Nat => (b : Int)) Sg.zero = (a, 0) := by
  have hl : ∀ b ∈ a.bits, b < 128 := fun b hb => by
    have := (List.mem_filter.1 hb).1
    simpa using this
  obtain ⟨t, e, ht, hk⟩ := fromGo_puts a.bits hl Sg.zero Sg.ok_zero
  rw [e]
  have : t = a := Sg.ext' ht ha fun k hk2 => by
    rw [hk k hk2, Sg.has_zero, Bool.false_or]
    cases h : a.has k with
    | true => simp [Sg.bits, List.mem_filter, hk2, h]
    | false => simp [Sg.bits, List.mem_filter, h]
  rw [this]

theorem parts_join (a b : Sg) (ha : a.ok) : (a.meet b).join (a.minus b) = a := by
  refine Sg.ext' (Sg.ok_join (Sg.ok_meet ha) (Sg.ok_minus ha)) ha fun k _ => ?_
  rw [Sg.has_join, Sg.has_meet, Sg.has_minus]
  cases a.has k <;> cases b.has k <;> rfl
theorem minus_apart (a b : Sg) (ha : a.ok) : (!(((a.minus b).meet b).same Sg.zero)) = false :=
  meets_no (Sg.ok_minus ha) fun k _ => by
    rw [Sg.has_minus]
    cases a.has k <;> cases b.has k <;> rfl
theorem meet_within (a b : Sg) (ha : a.ok) (hb : b.ok) : (((a.meet b).join b).same b) = true :=
  within_yes (Sg.ok_meet ha) hb fun k _ => by
    rw [Sg.has_meet]
    cases a.has k <;> cases b.has k <;> rfl
theorem meet_within' (a b : Sg) (ha : a.ok) : (((a.meet b).join a).same a) = true :=
  within_yes (Sg.ok_meet ha) ha fun k _ => by
    rw [Sg.has_meet]
    cases a.has k <;> cases b.has k <;> rfl
theorem counts_parts (a b : Sg) : (a.meet b).bits.length + (a.minus b).bits.length = a.bits.length := by
  refine filter_adds _ _ _ _ fun k _ => ?_
  rw [Sg.has_meet, Sg.has_minus]
  cases a.has k <;> cases b.has k <;> rfl
theorem counts_join (a b : Sg) : (a.join b).bits.length = (a.minus b).bits.length + b.bits.length := by
  refine (filter_adds _ _ _ _ fun k _ => ?_).symm
  rw [Sg.has_join, Sg.has_minus]
  cases a.has k <;> cases b.has k <;> rfl
theorem within_minus (a b : Sg) (ha : a.ok) (hb : b.ok) : ((a.join b).same b) = ((a.minus b).same Sg.zero) := by
  cases h : (a.minus b).same Sg.zero with
  | true =>
    have e := Sg.same_eq.1 h
    refine within_yes ha hb fun k hk => ?_
    have := congrArg (fun s => Sg.has s k) e
    simpa [Sg.has_minus, Sg.has_zero] using this
  | false =>
    cases h2 : (a.join b).same b with
    | false => rfl
    | true =>
      exfalso
      have e := Sg.same_eq.1 h2
      have : a.minus b = Sg.zero := Sg.ext' (Sg.ok_minus ha) Sg.ok_zero fun k hk => by
        have := congrArg (fun s => Sg.has s k) e
        simp only [Sg.has_join] at this
        rw [Sg.has_minus, Sg.has_zero]
        cases h3 : a.has k <;> cases h4 : b.has k <;> simp_all
      rw [this, Sg.same_self] at h
      cases h
theorem bits_le (a : Sg) : a.bits.length ≤ 128 := by
  have := List.length_filter_le a.has (List.range 128)
  simpa [Sg.bits] using this
theorem countB_any (s : Sg) (hs : s.ok) (w : World) : Calls Tryd.prog 33 #[s.val] w fun e w' => e = .returned (.int .i64 (s.bits.length : Nat)) ∧ Kept (fun _ => False) w w' := by
  rw [Sg.bits_words, List.length_append, List.length_map]
  exact count_any s hs w

/-- Signatures in blocks of their own, and nothing else turned since w. -/
structure Many (w : World) (l : List (Nat × Sg)) (W : World) : Prop where
  box : ∀ p ∈ l, Box W p.1 p.2
  K : Kept (fun _ => False) w W
theorem Many.kept {w : World} {l : List (Nat × Sg)} {W W' : World} (h : Many w l W) (k : Kept (fun _ => False) W W') : Many w l W' := ⟨fun p hp => (h.box p hp).kept k id, h.K.trans k (fun _ _ f => f)⟩
theorem Many.drew {w : World} {l : List (Nat × Sg)} {W : World} (h : Many w l W) : Many w l W.drew := ⟨h.box, h.K.drew⟩
theorem Many.of_calls {w : World} {l : List (Nat × Sg)} {f : FuncId} {args : Array Value} {x : Ending} (h : ∀ W, Calls Tryd.prog f args W fun e W' => e = x ∧ Kept (fun _ => False) W W') : ∀ W, Many w l W → Calls Tryd.prog f args W fun e W' => e = x ∧ Many w l W' :=
  fun W hD => (h W).mono fun e W' ⟨he, hk⟩ => ⟨he, hD.kept hk⟩
theorem Many.add {w : World} {l : List (Nat × Sg)} {W : World} (h : Many w l W) (lo hi : Nat) : Many w ((W.heap.size, ⟨lo, hi⟩) :: l) (W.alloc (.cells #[.int .u64 lo, .int .u64 hi] 31)) :=
  ⟨fun p hp => by
    rcases List.mem_cons.1 hp with rfl | hp
    · exact Box.new W lo hi
    · exact (h.box p hp).alloc _, h.K.alloc _⟩
end Go.Proofs.YtbbllmhnhhbpiaaDoor
