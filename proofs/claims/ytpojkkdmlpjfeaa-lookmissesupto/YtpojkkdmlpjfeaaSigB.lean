/- Signatures: Meets, Within, Of, Touched. -/
import Derived.Test.YtpojkkdmlpjfeaaSigA
import Derived.Deep.RegionHeld3
import Derived.Laws.AppendOwnNone
import Derived.Maps.AppendAt
namespace Go.Proofs.Ytpojkkdmlpjfeaa
open Go.RowKit
set_option linter.unusedVariables false
set_option linter.unusedSimpArgs false

theorem Try.infoS64 : (Try.prog.info? 22).map (fun i => (i.zero, i.size, i.bytes)) = some (some (.int .u64 0), 1, 8) := by kernel_rfl
theorem eqS (d : Nat) (a1 b1 a2 b2 : Int) (w : World) : (Op.equalIn (d + 2) 24 (.agg #[.int .u64 a1, .int .u64 b1]) (.agg #[.int .u64 a2, .int .u64 b2])).run Try.prog w = .ok ((a1 == a2) && (b1 == b2)) w := by
  obtain ⟨i0, hi0, hz0, hz1, hz2⟩ := info_parts Try.infoS64
  rw [run_equalIn_array (d := d + 1) w _ _ Try.underlying24 hi0, show Try.prog.cellsOf 22 = 1 from by kernel_rfl]
  show (Op.eqItems (d + 1) 22 1 _ _ [0, 1]).run Try.prog w = _
  have hp : ∀ (x y : Int) (w : World), (part 22 #[.int .u64 x, .int .u64 y] 0).run Try.prog w = .ok (.int .u64 x) w := fun x y w => run_part_plain (P := Try.prog) w (by kernel_rfl) rfl
  have hq : ∀ (x y : Int) (w : World), (part 22 #[.int .u64 x, .int .u64 y] 1).run Try.prog w = .ok (.int .u64 y) w := fun x y w => run_part_plain (P := Try.prog) w (by kernel_rfl) rfl
  have he : ∀ (x y : Int) (w : World), (Op.equalIn (d + 1) 22 (.int .u64 x) (.int .u64 y)).run Try.prog w = .ok (x == y) w := fun x y w => run_equalIn_int w d 22 .u64 .u64 x y Try.underlying22
  cases h1 : (a1 == a2) <;> cases h2 : (b1 == b2) <;> simp only [Op.eqItems, Sem.run_bind, Nat.zero_mul, Nat.one_mul, hp, hq, he, h1, h2, Result.andThen_ok, Bool.not_true, Bool.not_false, Bool.false_eq_true, if_true, if_false, Sem.run_pure, Bool.and_true, Bool.and_false, Bool.true_and, Bool.false_and]

/-- Two signatures in two blocks, and nothing else turned since w. -/
structure Duo (w : World) (m : Nat) (a b : Sg) (W : World) : Prop where
  A : Box W m a
  B : Box W (m + 1) b
  K : Kept (fun _ => False) w W
theorem Duo.kept {w : World} {m : Nat} {a b : Sg} {W W' : World} (h : Duo w m a b W) (k : Kept (fun _ => False) W W') : Duo w m a b W' := ⟨h.A.kept k id, h.B.kept k id, h.K.trans k (fun _ _ f => f)⟩
theorem Duo.drew {w : World} {m : Nat} {a b : Sg} {W : World} (h : Duo w m a b W) : Duo w m a b W.drew := ⟨h.A, h.B, h.K.drew⟩
theorem Duo.of_calls {f : FuncId} {args : Array Value} {x : Ending} {w : World} {m : Nat} {a b : Sg} (h : ∀ W, Calls Try.prog f args W fun e W' => e = x ∧ Kept (fun _ => False) W W') : ∀ W, Duo w m a b W → Calls Try.prog f args W fun e W' => e = x ∧ Duo w m a b W' :=
  fun W hD => (h W).mono fun e W' ⟨he, hk⟩ => ⟨he, hD.kept hk⟩

theorem hasTwo (w : World) (a0 a1 b0 b1 : Nat) {W : World} (hW : (w.alloc (.cells #[.int .u64 a0, .int .u64 a1] 24)).alloc (.cells #[.int .u64 b0, .int .u64 b1] 24) = W) : Box W w.heap.size ⟨a0, a1⟩ ∧ Box W (w.heap.size + 1) ⟨b0, b1⟩ ∧ Kept (fun _ => False) w W := by
  subst hW
  refine ⟨(Box.new w a0 a1).alloc _, ?_, ((Kept.refl _ w).alloc _).alloc _⟩
  have := Box.new (w.alloc (.cells #[.int .u64 a0, .int .u64 a1] 24)) b0 b1
  simpa using this

/-- Are two signatures one? -/
def Sg.same (s t : Sg) : Bool := ((s.lo : Int) == (t.lo : Int)) && ((s.hi : Int) == (t.hi : Int))

set_option maxHeartbeats 1000000 in
theorem sigMeets_any (a b : Sg) (ha : a.ok) (hb : b.ok) (w : World) : Calls Try.prog 56 #[a.val, b.val] w fun e w' => e = .returned (.bool (!((a.meet b).same Sg.zero))) ∧ Kept (fun _ => False) w w' := by
  have hM : ∀ w, Calls Try.prog 71 #[a.val, b.val] w fun e w' => e = .returned (a.meet b).val ∧ Kept (fun _ => False) w w' := fun w => meet_any a b ha hb w
  generalize a.meet b = r at *
  have hE := eqS
  unfold Sg.same
  obtain ⟨a0, a1⟩ := a
  obtain ⟨b0, b1⟩ := b
  obtain ⟨r0, r1⟩ := r
  unfold Sg.val at *
  simp only [Sg.zero] at *
  clear ha hb
  go_enter Try.func56, Try.ntmps56
  go_wp2_with fail
  generalize hW : (w.alloc (.cells #[.int .u64 a0, .int .u64 a1] 24)).alloc (.cells #[.int .u64 b0, .int .u64 b1] 24) = W
  obtain ⟨A, B, K⟩ := hasTwo w a0 a1 b0 b1 hW
  clear hW
  refine (hM _).mono ?_
  rintro e w1 ⟨rfl, hk⟩
  have K2 : Kept (fun _ => False) w w1 := K.trans hk (fun _ _ f => f)
  clear K hk A B hM
  go_wp2_with fail
  go_ret
  refine ⟨?_, K2⟩
  rw [Bool.not_and]
  rfl

/-- The signature of cells, put together one by one. -/
def ofGo (n : Int) : List Int → Sg → Sg × Int
  | [], s => (s, 0)
  | c :: l, s => if hashE c n = 0 then ofGo n l ((s.put (hash1 c n).toNat).put (hash2 c n).toNat) else (Sg.zero, hashE c n)
def ofR (cells : List Int) (n : Int) : Sg × Int := if 1 ≤ n ∧ n ≤ 128 then ofGo n cells Sg.zero else (Sg.zero, 1)

theorem hash_in {c n : Int} (h : hashE c n = 0) : ∃ h1 h2 : Nat, hash1 c n = h1 ∧ hash2 c n = h2 ∧ h1 < 128 ∧ h2 < 128 ∧ (hash1 c n).toNat = h1 ∧ (hash2 c n).toNat = h2 := by
  unfold hashE at h
  by_cases hn : 1 ≤ n ∧ n ≤ 128
  · by_cases hc : 0 ≤ c ∧ c < 256
    · have e1 : hash1 c n = hv c 40503 n := by unfold hash1; rw [if_pos hn, if_pos hc]
      have e2 : hash2 c n = hv c 30011 n := by unfold hash2; rw [if_pos hn, if_pos hc]
      have r1 := hv_range c 40503 n hn.1
      have r2 := hv_range c 30011 n hn.1
      rw [e1, e2]
      exact ⟨_, _, (Int.toNat_of_nonneg r1.1).symm, (Int.toNat_of_nonneg r2.1).symm, by omega, by omega, rfl, rfl⟩
    · rw [if_pos hn, if_neg hc] at h; simp at h
  · rw [if_neg hn] at h; simp at h

theorem drop_at (zs : List Int) (j : Nat) (h : j < zs.length) : zs.drop j = zs.getD j 0 :: zs.drop (j + 1) := by
  rw [List.drop_eq_getElem_cons h]
  simp [List.getD, h]

theorem pair_new (w : World) {W : World} (hW : (w.alloc (.cells #[.int .u64 0, .int .u64 0] 24)).alloc (.cells #[.int .u64 0, .int .u64 0] 24) = W) : Box W w.heap.size Sg.zero ∧ Box W (w.heap.size + 1) Sg.zero ∧ Kept (fun _ => False) w W := by
  have h := two_new w 0 0 hW
  exact h

theorem Try.infoInt : (Try.prog.info? 3).map (fun i => (i.zero, i.size, i.bytes)) = some (some (.int .i64 0), 1, 8) := by kernel_rfl
def cellsOf (l : List Nat) : List Value := l.map fun b : Nat => .int .i64 (b : Int)
theorem cellsOf_append (l k : List Nat) : cellsOf (l ++ k) = cellsOf l ++ cellsOf k := by simp [cellsOf]
theorem cellsOf_length (l : List Nat) : (cellsOf l).length = l.length := by simp [cellsOf]
theorem ownsRow_weaken {w : World} {b b' n : Nat} {v : Value} {e : TypeId} {size : Nat} {xs : List Value} (h : w.ownsRow b e size v n xs) (hb : b' ≤ b) : w.ownsRow b' e size v n xs := by
  refine ⟨h.1, ?_⟩
  rcases h.2 with hc | ⟨g, cap, cur, h1, hg, r⟩
  · exact .inl hc
  · exact .inr ⟨g, cap, cur, h1, Nat.le_trans hb hg, r⟩
theorem Box.grown {w w' : World} {n : Nat} {s : Sg} {row : Option Nat} (h : Box w n s) (k : w.grownBy w' row) (hn : row ≠ some n) : Box w' n s := (k.block n h.lt (fun e => hn e.symm)).trans h
theorem ownsRow_ne {w : World} {b n : Nat} {v : Value} {e : TypeId} {size : Nat} {xs : List Value} (h : w.ownsRow b e size v n xs) {k : Nat} (hk : k < b) : v.ownBlock ≠ some k := fun x => by
  have := (h.lt k x).1
  omega

/-- The words of a signature that hold bits, those below j. -/
def word (d : Sg) (i : Nat) : Nat := if i = 0 then d.lo else d.hi
def wordsBelow (d : Sg) (j : Nat) : List Nat := (List.range j).filter (fun i => word d i != 0)
def Sg.words (d : Sg) : List Nat := wordsBelow d 2
theorem wordsBelow_succ (d : Sg) (j : Nat) : wordsBelow d (j + 1) = wordsBelow d j ++ (if word d j != 0 then [j] else []) := by
  unfold wordsBelow
  rw [List.range_succ, List.filter_append]
  cases h : word d j != 0 <;> simp [h]
theorem wordsBelow_le (d : Sg) (j : Nat) : (wordsBelow d j).length ≤ j := by
  have := List.length_filter_le (fun i => word d i != 0) (List.range j)
  simpa [wordsBelow] using this
theorem word_idx (d : Sg) (j : Nat) (hj : j < 2) : ∀ w, (Instr.index 24 (.agg #[.int .u64 d.lo, .int .u64 d.hi]) (.int .i64 j)).run Try.prog w = .ok (.int .u64 (word d j : Nat)) w := by
  rcases (show j = 0 ∨ j = 1 by omega) with rfl | rfl
  · exact fun w => idx0 _ _ w
  · exact fun w => idx1 _ _ w
theorem Box.word {w : World} {n : Nat} {d : Sg} (h : Box w n d) {j : Nat} (hj : j < 2) : w.cell? ⟨n, j, none⟩ = some (.int .u64 (word d j : Nat)) := by
  rcases (show j = 0 ∨ j = 1 by omega) with rfl | rfl
  · exact h.c0
  · exact h.c1

end Go.Proofs.Ytpojkkdmlpjfeaa
