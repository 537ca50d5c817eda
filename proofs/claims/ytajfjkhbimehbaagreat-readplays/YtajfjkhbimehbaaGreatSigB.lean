/- Signatures: Meets, Within, Of, Touched. -/
import Derived.Test.YtajfjkhbimehbaaGreatSigA
import Derived.Deep.RegionHeld3
import Derived.Laws.AppendOwnNone
import Derived.Maps.AppendAt
namespace Go.Proofs.YtajfjkhbimehbaaGreat
open Go.RowKit
set_option linter.unusedVariables false
set_option linter.unusedSimpArgs false

theorem Tryz.infoS64 : (Tryz.prog.info? 46).map (fun i => (i.zero, i.size, i.bytes)) = some (some (.int .u64 0), 1, 8) := by kernel_rfl
theorem eqS (d : Nat) (a1 b1 a2 b2 : Int) (w : World) : (Op.equalIn (d + 2) 48 (.agg #[.int .u64 a1, .int .u64 b1]) (.agg #[.int .u64 a2, .int .u64 b2])).run Tryz.prog w = .ok ((a1 == a2) && (b1 == b2)) w := by
  obtain ⟨i0, hi0, hz0, hz1, hz2⟩ := info_parts Tryz.infoS64
  rw [run_equalIn_array (d := d + 1) w _ _ Tryz.underlying48 hi0, show Tryz.prog.cellsOf 46 = 1 from by kernel_rfl]
  show (Op.eqItems (d + 1) 46 1 _ _ [0, 1]).run Tryz.prog w = _
  have hp : ∀ (x y : Int) (w : World), (part 46 #[.int .u64 x, .int .u64 y] 0).run Tryz.prog w = .ok (.int .u64 x) w := fun x y w => run_part_plain (P := Tryz.prog) w (by kernel_rfl) rfl
  have hq : ∀ (x y : Int) (w : World), (part 46 #[.int .u64 x, .int .u64 y] 1).run Tryz.prog w = .ok (.int .u64 y) w := fun x y w => run_part_plain (P := Tryz.prog) w (by kernel_rfl) rfl
  have he : ∀ (x y : Int) (w : World), (Op.equalIn (d + 1) 46 (.int .u64 x) (.int .u64 y)).run Tryz.prog w = .ok (x == y) w := fun x y w => run_equalIn_int w d 46 .u64 .u64 x y Tryz.underlying46
  cases h1 : (a1 == a2) <;> cases h2 : (b1 == b2) <;> simp only [Op.eqItems, Sem.run_bind, Nat.zero_mul, Nat.one_mul, hp, hq, he, h1, h2, Result.andThen_ok, Bool.not_true, Bool.not_false, Bool.false_eq_true, if_true, if_false, Sem.run_pure, Bool.and_true, Bool.and_false, Bool.true_and, Bool.false_and]

/-- Two signatures in two blocks, and nothing else turned since w. -/
structure Duo (w : World) (m : Nat) (a b : Sg) (W : World) : Prop where
  A : Box W m a
  B : Box W (m + 1) b
  K : Kept (fun _ => False) w W
theorem Duo.kept {w : World} {m : Nat} {a b : Sg} {W W' : World} (h : Duo w m a b W) (k : Kept (fun _ => False) W W') : Duo w m a b W' := ⟨h.A.kept k id, h.B.kept k id, h.K.trans k (fun _ _ f => f)⟩
theorem Duo.drew {w : World} {m : Nat} {a b : Sg} {W : World} (h : Duo w m a b W) : Duo w m a b W.drew := ⟨h.A, h.B, h.K.drew⟩
theorem Duo.of_calls {f : FuncId} {args : Array Value} {x : Ending} {w : World} {m : Nat} {a b : Sg} (h : ∀ W, Calls Tryz.prog f args W fun e W' => e = x ∧ Kept (fun _ => False) W W') : ∀ W, Duo w m a b W → Calls Tryz.prog f args W fun e W' => e = x ∧ Duo w m a b W' :=
  fun W hD => (h W).mono fun e W' ⟨he, hk⟩ => ⟨he, hD.kept hk⟩

theorem hasTwo (w : World) (a0 a1 b0 b1 : Nat) {W : World} (hW : (w.alloc (.cells #[.int .u64 a0, .int .u64 a1] 48)).alloc (.cells #[.int .u64 b0, .int .u64 b1] 48) = W) : Box W w.heap.size ⟨a0, a1⟩ ∧ Box W (w.heap.size + 1) ⟨b0, b1⟩ ∧ Kept (fun _ => False) w W := by
  subst hW
  refine ⟨(Box.new w a0 a1).alloc _, ?_, ((Kept.refl _ w).alloc _).alloc _⟩
  have := Box.new (w.alloc (.cells #[.int .u64 a0, .int .u64 a1] 48)) b0 b1
  simpa using this

/-- Are two signatures one? -/
def Sg.same (s t : Sg) : Bool := ((s.lo : Int) == (t.lo : Int)) && ((s.hi : Int) == (t.hi : Int))

/-- The signature of cells, put together one by one. -/
def ofGo (n : Int) : List Int → Sg → Sg × Int
  | [], s => (s, 0)
  | c :: l, s => if hashE c n = 0 then ofGo n l ((s.put (hash1 c n).toNat).put (hash2 c n).toNat) else (Sg.zero, hashE c n)
def ofR (cells : List Int) (n : Int) : Sg × Int := if 1 ≤ n ∧ n ≤ 128 then ofGo n cells Sg.zero else (Sg.zero, 1)

theorem hash_in {c n : Int} (h : hashE c n = 0) : ∃ h1 h2 : Nat, hash1 c n = h1 ∧ hash2 c n = h2 ∧ h1 < 128 ∧ h2 < 128 ∧ (hash1 c n).toNat = h1 ∧ (hash2 c n).toNat = h2 := by
  unfold hashE at h
  by_cases hn : 1 ≤ n ∧ n ≤ 128
  · by_cases hc : 0 ≤ c ∧ c < 256
    · have e1 : hash1 c n = hv c 40503 n := by unfold hash1; rw [if_pos hn, if_pos hc]
      have e2 : hash2 c n = hv c 30011 n := by unfold hash2; rw [if_pos hn, if_pos hc]
      have r1 := hv_range c 40503 n hn.1
      have r2 := hv_range c 30011 n hn.1
      rw [e1, e2]
      exact ⟨_, _, (Int.toNat_of_nonneg r1.1).symm, (Int.toNat_of_nonneg r2.1).symm, by omega, by omega, rfl, rfl⟩
    · rw [if_pos hn, if_neg hc] at h; simp at h
  · rw [if_neg hn] at h; simp at h

theorem drop_at (zs : List Int) (j : Nat) (h : j < zs.length) : zs.drop j = zs.getD j 0 :: zs.drop (j + 1) := by
  rw [List.drop_eq_getElem_cons h]
  simp [List.getD, h]

theorem pair_new (w : World) {W : World} (hW : (w.alloc (.cells #[.int .u64 0, .int .u64 0] 48)).alloc (.cells #[.int .u64 0, .int .u64 0] 48) = W) : Box W w.heap.size Sg.zero ∧ Box W (w.heap.size + 1) Sg.zero ∧ Kept (fun _ => False) w W := by
  have h := two_new w 0 0 hW
  exact h

set_option maxRecDepth 100000 in
set_option maxHeartbeats 1000000 in
theorem of_any (la : Option Addr) (n ca : Nat) (zs : List Int) (b : Int) (w : World) (hz : IntsIn w la n zs) (hn : n ≤ 35184372088832) :
    Calls Tryz.prog 35 #[.slice la n ca, .int .i64 b] w fun e w' => e = .returned (.tuple #[(ofR zs b).1.val, .int .i64 (ofR zs b).2]) ∧ Kept (fun _ => False) w w' := by
  unfold ofR
  by_cases hb : 1 ≤ b ∧ b ≤ 128
  · simp only [if_pos hb]
    have wy := fun w => width_yes b w hb.1 hb.2
    have HL : Hid (n = zs.length) := hz.1
    have HZ : Hid (IntsIn w la n zs) := hz
    clear hz
    obtain ⟨R, HR⟩ : ∃ R, Hid (ofGo b zs Sg.zero = R) := ⟨_, rfl⟩
    rw [HR.out]
    go_enter Tryz.func35, Tryz.ntmps35
    go_wp2_with fail
    refine (wy _).mono ?_
    rintro e w1 ⟨rfl, hw1⟩
    subst hw1
    go_wp2_with fail
    generalize hW : (w.alloc (.cells #[.int .u64 0, .int .u64 0] 48)).alloc (.cells #[.int .u64 0, .int .u64 0] 48) = W
    obtain ⟨A, B, K⟩ := pair_new w hW
    clear hW
    generalize hm : w.heap.size = m at *
    have HM : Hid (w.heap.size = m) := hm
    clear hm wy
    go_loopw [18] (fun i wr => ∃ (j : Nat) (s : Sg), i = .int .i64 j ∧ j ≤ n ∧ s.ok ∧ Box wr m Sg.zero ∧ Box wr (m + 1) s ∧ Kept (fun _ => False) w wr ∧ Hid (ofGo b (zs.drop j) s = R)) (fun i _ => n - (intOf i).toNat)
    case atStart => exact ⟨0, Sg.zero, rfl, Nat.zero_le _, Sg.ok_zero, A, B, K, HR⟩
    case round =>
      obtain ⟨j, s, rfl, hj, hs, hA, hB, hK, hR⟩ := hrel
      clear A B K
      by_cases hlt : j < n
      · obtain ⟨g, o, rfl, hga⟩ := HZ.out.2 (by omega)
        have c1 : wr.cell? ⟨g, o + j, none⟩ = some (.int .i64 (zs.getD j 0)) := hK.cell (hga j hlt) (fun f => f)
        have HD : Hid (ofGo b (zs.getD j 0 :: zs.drop (j + 1)) s = R) := by
          have := hR.out
          rwa [drop_at zs j (by have := HL.out; omega)] at this
        generalize zs.getD j 0 = z at c1 HD
        clear hga HZ
        have h0 : (0 : Int) ≤ (j : Int) := Int.natCast_nonneg _
        have h1 : (j : Int) < (n : Int) := by omega
        go_wp2_with fail
        refine (hash_any z b _).mono ?_
        rintro e w1 ⟨rfl, hw1⟩
        subst hw1
        by_cases hE : hashE z b = 0
        · obtain ⟨x1, x2, e1, e2, l1, l2, t1, t2⟩ := hash_in hE
          rw [e1, e2, hE]
          unfold ofGo at HD
          have HD2 : Hid (ofGo b (zs.drop (j + 1)) ((s.put x1).put x2) = R) := by
            have := HD.out
            rwa [if_pos hE, t1, t2] at this
          have w1' := fun w => with_any s x1 hs l1 w
          have w2' := fun w => with_any (s.put x1) x2 (Sg.ok_put hs l1) l2 w
          have ok2 := Sg.ok_put (Sg.ok_put hs l1) l2
          generalize (s.put x1).put x2 = s2 at *
          generalize s.put x1 = s1 at *
          have y0 := hB.c0; have y1 := hB.c1
          obtain ⟨s0, s1'⟩ := s
          obtain ⟨r0, r1⟩ := s2
          simp only [Sg.val] at w1' w2' y0 y1
          clear HD e1 e2 hE t1 t2
          go_wp2_with fail
          refine (w1' _).mono ?_
          rintro e w3 ⟨rfl, hk3⟩
          go_wp2_with fail
          refine (w2' _).mono ?_
          rintro e w4 ⟨rfl, hk4⟩
          have hA4 := (hA.kept hk3 id).kept hk4 id
          have hB4 := (hB.kept hk3 id).kept hk4 id
          have hK4 : Kept (fun _ => False) w w4 := (hK.trans hk3 (fun _ _ f => f)).trans hk4 (fun _ _ f => f)
          have z0 := hB4.c0; have z1 := hB4.c1; have z2 := hB4.f0; have z3 := hB4.f1
          simp only at z0 z1
          clear hk3 hk4 w1' w2' y0 y1
          go_wp2_with fail
          go_roundw
          case rel => exact ⟨j + 1, ⟨r0, r1⟩, by go_num, hlt, ok2, (hA4.far (by simp)).far (by simp), hB4.set ⟨r0, r1⟩, (hK4.setCell _ (.inr (by rw [HM.out]; simp))).setCell _ (.inr (by rw [HM.out]; simp)), HD2⟩
          case measure => simp [intOf]; omega
        · unfold ofGo at HD
          have HD2 : Hid ((Sg.zero, hashE z b) = R) := by
            have := HD.out
            rwa [if_neg hE] at this
          have hne : (hashE z b != 0) = true := by simpa using hE
          generalize hashE z b = ee at *
          generalize hash1 z b = x1 at *
          generalize hash2 z b = x2 at *
          have z0 := hA.c0; have z1 := hA.c1; have z2 := hA.f0; have z3 := hA.f1
          simp only [Sg.zero] at z0 z1
          clear HD hE
          go_wp2
          have hB2 : Box ((w1.setCell ⟨m, 0, none⟩ (.int .u64 0)).setCell ⟨m, 1, none⟩ (.int .u64 0)) m Sg.zero := hA.set Sg.zero
          have hK2 := (hK.setCell (p := ⟨m, 0, none⟩) (.int .u64 0) (.inr (by rw [HM.out]; simp))).setCell (p := ⟨m, 1, none⟩) (.int .u64 0) (.inr (by rw [HM.out]; simp))
          have y0 : ((w1.setCell ⟨m, 0, none⟩ (.int .u64 0)).setCell ⟨m, 1, none⟩ (.int .u64 0)).cell? ⟨m, 0, none⟩ = some (.int .u64 0) := hB2.c0
          have y1 : ((w1.setCell ⟨m, 0, none⟩ (.int .u64 0)).setCell ⟨m, 1, none⟩ (.int .u64 0)).cell? ⟨m, 1, none⟩ = some (.int .u64 0) := hB2.c1
          exact bodyPost_ret (v := .tuple #[.agg #[.int .u64 0, .int .u64 0], .int .i64 ee]) (by simp [results, Tryz.results35, go_sem, y0, y1]) rfl ⟨by rw [← HD2.out]; rfl, hK2⟩
      · have h1 : ¬ (j : Int) < (n : Int) := by omega
        have hR2 : Hid ((s, (0 : Int)) = R) := by
          have := hR.out
          rwa [List.drop_eq_nil_of_le (by have := HL.out; omega)] at this
        have z0 := hA.c0; have z1 := hA.c1; have z2 := hA.f0; have z3 := hA.f1
        have y0 := hB.c0; have y1 := hB.c1
        obtain ⟨s0, s1⟩ := s
        simp only [Sg.zero] at z0 z1 y0 y1
        go_wp2
        have hB2 := hA.set ⟨s0, s1⟩
        have hK2 := (hK.setCell (p := ⟨m, 0, none⟩) (.int .u64 (s0 : Int)) (.inr (by rw [HM.out]; simp))).setCell (p := ⟨m, 1, none⟩) (.int .u64 (s1 : Int)) (.inr (by rw [HM.out]; simp))
        have x0 := hB2.c0; have x1 := hB2.c1
        simp only at x0 x1 hB2 hK2
        exact bodyPost_ret (v := .tuple #[.agg #[.int .u64 s0, .int .u64 s1], .int .i64 0]) (by simp [results, Tryz.results35, go_sem, x0, x1]) rfl ⟨by rw [← hR2.out]; rfl, hK2⟩
  · simp only [if_neg hb]
    have wn := fun w => width_no b w hb
    clear hb hz
    go_enter Tryz.func35, Tryz.ntmps35
    go_wp2_with fail
    refine (wn _).mono ?_
    rintro e w1 ⟨rfl, hw1⟩
    subst hw1
    go_wp2
    exact bodyPost_ret (v := .tuple #[.agg #[.int .u64 0, .int .u64 0], .int .i64 1]) (by simp [results, Tryz.results35, go_sem]) rfl ⟨rfl, (Kept.refl _ w).alloc _⟩

theorem Tryz.infoInt : (Tryz.prog.info? 3).map (fun i => (i.zero, i.size, i.bytes)) = some (some (.int .i64 0), 1, 8) := by kernel_rfl
def cellsOf (l : List Nat) : List Value := l.map fun b : Nat => .int .i64 (b : Int)
theorem cellsOf_append (l k : List Nat) : cellsOf (l ++ k) = cellsOf l ++ cellsOf k := by simp [cellsOf]
theorem cellsOf_length (l : List Nat) : (cellsOf l).length = l.length := by simp [cellsOf]
theorem ownsRow_weaken {w : World} {b b' n : Nat} {v : Value} {e : TypeId} {size : Nat} {xs : List Value} (h : w.ownsRow b e size v n xs) (hb : b' ≤ b) : w.ownsRow b' e size v n xs := by
  refine ⟨h.1, ?_⟩
  rcases h.2 with hc | ⟨g, cap, cur, h1, hg, r⟩
  · exact .inl hc
  · exact .inr ⟨g, cap, cur, h1, Nat.le_trans hb hg, r⟩
theorem Box.grown {w w' : World} {n : Nat} {s : Sg} {row : Option Nat} (h : Box w n s) (k : w.grownBy w' row) (hn : row ≠ some n) : Box w' n s := (k.block n h.lt (fun e => hn e.symm)).trans h
theorem ownsRow_ne {w : World} {b n : Nat} {v : Value} {e : TypeId} {size : Nat} {xs : List Value} (h : w.ownsRow b e size v n xs) {k : Nat} (hk : k < b) : v.ownBlock ≠ some k := fun x => by
  have := (h.lt k x).1
  omega

/-- The words of a signature that hold bits, those below j. -/
def word (d : Sg) (i : Nat) : Nat := if i = 0 then d.lo else d.hi
def wordsBelow (d : Sg) (j : Nat) : List Nat := (List.range j).filter (fun i => word d i != 0)
def Sg.words (d : Sg) : List Nat := wordsBelow d 2
theorem wordsBelow_succ (d : Sg) (j : Nat) : wordsBelow d (j + 1) = wordsBelow d j ++ (if word d j != 0 then [j] else []) := by
  unfold wordsBelow
  rw [List.range_succ, List.filter_append]
  cases h : word d j != 0 <;> simp [h]
theorem wordsBelow_le (d : Sg) (j : Nat) : (wordsBelow d j).length ≤ j := by
  have := List.length_filter_le (fun i => word d i != 0) (List.range j)
  simpa [wordsBelow] using this
theorem word_idx (d : Sg) (j : Nat) (hj : j < 2) : ∀ w, (Instr.index 48 (.agg #[.int .u64 d.lo, .int .u64 d.hi]) (.int .i64 j)).run Tryz.prog w = .ok (.int .u64 (word d j : Nat)) w := by
  rcases (show j = 0 ∨ j = 1 by omega) with rfl | rfl
  · exact fun w => idx0 _ _ w
  · exact fun w => idx1 _ _ w
theorem Box.word {w : World} {n : Nat} {d : Sg} (h : Box w n d) {j : Nat} (hj : j < 2) : w.cell? ⟨n, j, none⟩ = some (.int .u64 (word d j : Nat)) := by
  rcases (show j = 0 ∨ j = 1 by omega) with rfl | rfl
  · exact h.c0
  · exact h.c1

set_option maxRecDepth 100000 in
set_option maxHeartbeats 1000000 in
theorem touched_any (a b : Sg) (ha : a.ok) (hb : b.ok) (w : World) : Calls Tryz.prog 101 #[a.val, b.val] w fun e w' => ∃ v, e = .returned v ∧ w'.ownsRow w.heap.size 3 1 v (b.minus a).words.length (cellsOf (b.minus a).words) ∧ Kept (fun _ => False) w w' := by
  obtain ⟨i0, hi0, hz0, hz1, hz2⟩ := info_parts Tryz.infoInt
  have hM := minus_any b a hb ha
  generalize b.minus a = d at *
  have HS : Hid (∀ j, wordsBelow d (j + 1) = wordsBelow d j ++ (if word d j != 0 then [j] else [])) := wordsBelow_succ d
  have HLE : Hid (∀ j, (wordsBelow d j).length ≤ j) := wordsBelow_le d
  have HE : Hid (wordsBelow d 2 = d.words) := rfl
  have H0 : Hid (wordsBelow d 0 = []) := rfl
  have HI := word_idx d
  generalize d.words = R at *
  generalize wordsBelow d = L at *
  generalize word d = X at *
  obtain ⟨a0, a1⟩ := a
  obtain ⟨b0, b1⟩ := b
  obtain ⟨d0, d1⟩ := d
  simp only [Sg.val] at hM HI ⊢
  have HI2 : Hid (∀ (j : Nat), j < 2 → ∀ w, (Instr.index 48 (.agg #[.int .u64 d0, .int .u64 d1]) (.int .i64 j)).run Tryz.prog w = .ok (.int .u64 (X j : Nat)) w) := HI
  clear ha hb HI
  go_enter Tryz.func101, Tryz.ntmps101
  go_wp2_with fail
  generalize hW : (w.alloc (.cells #[.int .u64 a0, .int .u64 a1] 48)).alloc (.cells #[.int .u64 b0, .int .u64 b1] 48) = W
  obtain ⟨A, B, K⟩ := hasTwo w a0 a1 b0 b1 hW
  clear hW A B
  refine (hM _).mono ?_
  rintro e w1 ⟨rfl, k1⟩
  have K1 : Kept (fun _ => False) w w1 := K.trans k1 (fun _ _ f => f)
  clear K k1 hM
  go_wp2_with fail
  generalize hm : w.heap.size = m at *
  have HM : Hid (w.heap.size = m) := hm
  clear hm
  go_loopw [5, 11] (fun v i wr => ∃ j : Nat, i = .int .i64 j ∧ j ≤ 2 ∧ wr.ownsRow m 3 1 v (L j).length (cellsOf (L j)) ∧ Kept (fun _ => False) w wr) (fun _ i _ => 2 - (intOf i).toNat)
  case atStart => exact ⟨0, rfl, Nat.zero_le _, by rw [H0.out]; exact World.ownsRow_nil _ _ _ _, K1⟩
  case round =>
    obtain ⟨j, rfl, hj, ho, hK⟩ := hrel
    clear K1
    by_cases hlt : j < 2
    · have h1 : (j : Int) < 2 := by omega
      have h0 : (0 : Int) ≤ (j : Int) := by omega
      have hS := HS.out j
      have hI := HI2.out j hlt
      cases hf : X j != 0 with
      | false =>
        rw [hf] at hS
        have HS2 : Hid (L (j + 1) = L j) := by show _ = _; simpa using hS
        have hx : (((X j : Nat) : Int) != 0) = false := by simpa using hf
        clear hS hf
        generalize X j = x at *
        go_wp2_with fail
        go_roundw
        case rel => exact ⟨j + 1, by go_num, hlt, by rw [HS2.out]; exact ho, hK⟩
        case measure => simp [intOf]; omega
      | true =>
        rw [hf] at hS
        have HS2 : Hid (L (j + 1) = L j ++ [j]) := by show _ = _; simpa using hS
        have hN : (L j).length ≤ 1 := by have := HLE.out j; omega
        have hx : (((X j : Nat) : Int) != 0) = true := by simpa using hf
        clear hS hf
        have hmw : Hid (m ≤ wr.heap.size) := by
          have := hK.size
          rw [HM.out] at this
          exact this
        generalize X j = x at *
        generalize hNN : (L j).length = NN at *
        have HNN : Hid ((L j).length = NN) := hNN
        generalize hLL : L j = LL at *
        clear hNN hLL
        go_wp2_with (at_builtin; refine wpList_append_lies _ rfl (.tmp 17) (.tmp 19) 97 rfl m 3 i0 _ 1 8 Tryz.underlying97 hi0 hz0 hz1 hz2 rfl (by omega) _ NN (cellsOf LL) rfl (ho.alloc _) ⟨wr.heap.size, 0, none⟩ 1 1 [.int .i64 (j : Int)] rfl (by simp) (World.news_of_block (cs := #[.int .i64 (j : Int)]) (t := 3) (fr := (0, 0)) (heap_alloc_new wr _)) (by simp [Value.oneCell']) (by omega) (by unfold maxLen; omega) (by omega) (by simp; have := hmw.out; omega) (wr.heap.size + 1) (by simp) ?_; intro g cap w5 hown5 hgrow hat hlt5)
        go_roundw
        case rel =>
          refine ⟨j + 1, by go_num, hlt, ?_, (hK.alloc _).grown hgrow (fun k e => .inr ?_)⟩
          · rw [HS2.out, cellsOf_append, List.length_append, HNN.out]
            exact hown5
          · have := (ho.lt k e).1
            rw [HM.out]
            exact this
        case measure => simp [intOf]; omega
    · have hj8 : j = 2 := by omega
      subst hj8
      go_wp2
      go_ret
      exact ⟨_, rfl, by rw [HM.out, ← HE.out]; exact ho, hK⟩

end Go.Proofs.YtajfjkhbimehbaaGreat
