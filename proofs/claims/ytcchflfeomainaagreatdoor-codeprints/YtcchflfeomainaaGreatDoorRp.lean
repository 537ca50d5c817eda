/- The document's digits and Print. -/
import Derived.Test.YtcchflfeomainaaGreatDoorRf
import Derived.Test.YtcchflfeomainaaGreatDoorLs
import Derived.Lib.AppendStr
import Derived.Laws.IdiomStrings
namespace Go.Proofs.YtcchflfeomainaaGreatDoor
open Go.RowKit
set_option linter.unusedVariables false
set_option linter.unusedSimpArgs false
attribute [local go_sem ↓] Go.wp_at_zero Go.wp_at_succ

theorem digit_at : ∀ m : Nat, m < 10 → (⟨#[48, 49, 50, 51, 52, 53, 54, 55, 56, 57]⟩ : ByteArray).extract m (m + 1) = bs (Lib.itoa (m : Nat))
  | 0, _ => by kernel_rfl
  | 1, _ => by kernel_rfl
  | 2, _ => by kernel_rfl
  | 3, _ => by kernel_rfl
  | 4, _ => by kernel_rfl
  | 5, _ => by kernel_rfl
  | 6, _ => by kernel_rfl
  | 7, _ => by kernel_rfl
  | 8, _ => by kernel_rfl
  | 9, _ => by kernel_rfl
  | n + 10, h => absurd h (by omega)
theorem bs_cat (a b : List UInt8) : bs a ++ bs b = bs (a ++ b) := by simp [bs, ByteArray.ext_iff]
theorem itoa_neg1 {n : Int} (h : n < 0) (h2 : -10 < n) : Lib.itoa n = 45 :: Lib.itoa (-n) := by
  unfold Lib.itoa
  rw [if_pos h, if_neg (by omega)]
  congr 2
  omega
theorem itoa_pos {n : Int} (h : 10 ≤ n) : Lib.itoa n = Lib.itoa (n.tdiv 10) ++ Lib.itoa (n.tmod 10) := by
  obtain ⟨m, rfl⟩ : ∃ m : Nat, n = m := ⟨n.toNat, by omega⟩
  have h1 : (m : Int).tdiv 10 = ((m / 10 : Nat) : Int) := rfl
  have h2 : (m : Int).tmod 10 = ((m % 10 : Nat) : Int) := rfl
  rw [h1, h2]
  unfold Lib.itoa
  rw [if_neg (by omega), if_neg (by omega), if_neg (by omega)]
  simp only [Int.toNat_natCast]
  rw [Lib.decDigits, dif_neg (by omega), Lib.decDigits_one (i := m % 10) (by omega)]
theorem itoa_neg {n : Int} (h : n ≤ -10) : Lib.itoa n = Lib.itoa (n.tdiv 10) ++ Lib.itoa (-(n.tmod 10)) := by
  obtain ⟨m, rfl⟩ : ∃ m : Nat, n = -(m : Int) := ⟨n.natAbs, by omega⟩
  have h1 : (-(m : Int)).tdiv 10 = -((m / 10 : Nat) : Int) := by rw [Int.neg_tdiv]; rfl
  have h2 : (-(m : Int)).tmod 10 = -((m % 10 : Nat) : Int) := by rw [Int.neg_tmod]; rfl
  rw [h1, h2, Int.neg_neg]
  unfold Lib.itoa
  rw [if_pos (by omega), if_pos (by omega), if_neg (by omega)]
  have e1 : (-(m : Int)).natAbs = m := by omega
  have e2 : (-((m / 10 : Nat) : Int)).natAbs = m / 10 := by omega
  rw [e1, e2, Int.toNat_natCast, Lib.decDigits, dif_neg (by omega), Lib.decDigits_one (i := m % 10) (by omega)]
  rfl
set_option maxRecDepth 100000 in
set_option maxHeartbeats 1000000 in
theorem rDigits_any (k : Nat) : ∀ (n : Int) (w : World), n.natAbs < 10 ^ (k + 1) → -9223372036854775808 ≤ n → n ≤ 9223372036854775807 →
    Calls Tryz.prog 39 #[.int .i64 n] w fun e w' => e = .returned (.string (bs (Lib.itoa n))) ∧ w' = w := by
  have small : ∀ (n : Int) (w : World), 0 ≤ n → n < 10 → Calls Tryz.prog 39 #[.int .i64 n] w fun e w' => e = .returned (.string (bs (Lib.itoa n))) ∧ w' = w := by
    intro n w h0 h1
    obtain ⟨m, rfl⟩ : ∃ m : Nat, n = m := ⟨n.toNat, by omega⟩
    have hd := digit_at m (by omega)
    have b1 : (0 : Int) ≤ (m : Int) := by omega
    have b2 : (m : Int) + 1 ≤ 10 := by omega
    have b3 : (m : Int) ≤ (m : Int) + 1 := by omega
    have t0 : decide (0 ≤ (m : Int)) = true := decide_eq_true h0
    generalize Lib.itoa (m : Int) = im at *
    go_enter Tryz.func39, Tryz.ntmps39
    go_wp2_with fail
    go_ret
    exact ⟨rfl, rfl⟩
  have minus : ∀ (n : Int) (w : World), n < 0 → -10 < n → Calls Tryz.prog 39 #[.int .i64 n] w fun e w' => e = .returned (.string (bs (Lib.itoa n))) ∧ w' = w := by
    intro n w h0 h1
    have hs := fun W => small (-n) W (by omega) (by omega)
    rw [itoa_neg1 h0 h1]
    have hc : (⟨#[45]⟩ : ByteArray) ++ bs (Lib.itoa (-n)) = bs (45 :: Lib.itoa (-n)) := bs_cat [45] _
    have t0 : decide (0 ≤ n) = false := decide_eq_false (by omega)
    have t1 : decide (n < 0) = true := decide_eq_true h0
    have hl := itoa_len (-n) (by omega) (by omega)
    generalize Lib.itoa (-n) = im at *
    have hl2 : ¬ 9223372036854775807 < 1 + im.length := by omega
    clear small hl
    go_enter Tryz.func39, Tryz.ntmps39
    go_wp2_with fail
    refine (hs _).mono ?_
    rintro e w1 ⟨rfl, rfl⟩
    go_wp2_with fail
    go_ret
    exact ⟨rfl, rfl⟩
  induction k with
  | zero =>
    intro n w hk _ _
    by_cases h0 : 0 ≤ n
    · exact small n w h0 (by simp at hk; omega)
    · exact minus n w (by omega) (by simp at hk; omega)
  | succ k ih =>
    intro n w hk hlo hhi
    by_cases h1 : 0 ≤ n ∧ n < 10
    · exact small n w h1.1 h1.2
    by_cases h2 : n < 0 ∧ -10 < n
    · exact minus n w h2.1 h2.2
    have hk2 : (n.tdiv 10).natAbs < 10 ^ (k + 1) := by
      rw [Int.natAbs_tdiv]
      show n.natAbs / 10 < _
      rw [Nat.div_lt_iff_lt_mul (by decide), ← Nat.pow_succ]
      exact hk
    by_cases hp : 10 ≤ n
    · have r0 : 0 ≤ n.tmod 10 ∧ n.tmod 10 < 10 := ⟨Int.tmod_nonneg _ (by omega), Int.tmod_lt_of_pos _ (by decide)⟩
      have d0 : 0 ≤ n.tdiv 10 ∧ n.tdiv 10 ≤ n := ⟨Int.tdiv_nonneg (by omega) (by decide), by rw [Int.tdiv_eq_ediv_of_nonneg (by omega)]; omega⟩
      have c1 := fun W => ih (n.tdiv 10) W hk2 (by omega) (by omega)
      have c2 := fun W => small (n.tmod 10) W r0.1 r0.2
      rw [itoa_pos hp, ← bs_cat]
      have t0 : decide (0 ≤ n) = true := decide_eq_true (by omega)
      have t1 : decide (n < 10) = false := decide_eq_false (by omega)
      have t2 : decide (n < 0) = false := decide_eq_false (by omega)
      have t3 : ¬ n.tmod 10 < 0 := by omega
      have em : n.tmod 10 = n % 10 := Int.tmod_eq_emod_of_nonneg (by omega)
      have ed : n.tdiv 10 = n / 10 := Int.tdiv_eq_ediv_of_nonneg (by omega)
      have hl1 := itoa_len (n.tdiv 10) (by omega) (by omega)
      have hl2 := itoa_len (n.tmod 10) (by omega) (by omega)
      rw [em] at c2 t3 hl2 ⊢
      rw [ed] at c1 hl1 ⊢
      generalize Lib.itoa (n / 10) = ia at *
      generalize Lib.itoa (n % 10) = ib at *
      have hl3 : ¬ 9223372036854775807 < ia.length + ib.length := by omega
      have hc := bs_cat ia ib
      rw [hc]
      clear ih small minus hk hk2 em ed r0 d0 hl1 hl2
      go_enter Tryz.func39, Tryz.ntmps39
      go_wp2_with fail
      refine (c1 _).mono ?_
      rintro e w1 ⟨rfl, rfl⟩
      go_wp2_with fail
      refine (c2 _).mono ?_
      rintro e w2 ⟨rfl, rfl⟩
      go_wp2_with fail
      go_ret
      exact ⟨rfl, rfl⟩
    · have hq : n ≤ -10 := by omega
      have r0 : -10 < n.tmod 10 ∧ n.tmod 10 ≤ 0 := by
        obtain ⟨m, rfl⟩ : ∃ m : Nat, n = -(m : Int) := ⟨n.natAbs, by omega⟩
        have h2 : (-(m : Int)).tmod 10 = -((m % 10 : Nat) : Int) := by rw [Int.neg_tmod]; rfl
        rw [h2]; omega
      have d0 : n ≤ n.tdiv 10 ∧ n.tdiv 10 ≤ 0 := by
        obtain ⟨m, rfl⟩ : ∃ m : Nat, n = -(m : Int) := ⟨n.natAbs, by omega⟩
        have h2 : (-(m : Int)).tdiv 10 = -((m / 10 : Nat) : Int) := by rw [Int.neg_tdiv]; rfl
        rw [h2]; omega
      have c1 := fun W => ih (n.tdiv 10) W hk2 (by omega) (by omega)
      have c2 := fun W => small (-(n.tmod 10)) W (by omega) (by omega)
      rw [itoa_neg hq, ← bs_cat]
      have t0 : decide (0 ≤ n) = false := decide_eq_false (by omega)
      have t2 : decide (n < 0) = true := decide_eq_true (by omega)
      have t3 : decide (-10 < n) = false := decide_eq_false (by omega)
      have hl1 := itoa_len (n.tdiv 10) (by omega) (by omega)
      have hl2 := itoa_len (-(n.tmod 10)) (by omega) (by omega)
      generalize Lib.itoa (n.tdiv 10) = ia at *
      by_cases hz : n.tmod 10 < 0
      · generalize Lib.itoa (-(n.tmod 10)) = ib at *
        have hl3 : ¬ 9223372036854775807 < ia.length + ib.length := by omega
        have hc := bs_cat ia ib
        rw [hc]
        have hw : wrap64 (-(n.tmod 10)) = -(n.tmod 10) := by unfold wrap64; omega
        clear ih small minus hk hk2 hl1 hl2 r0 d0
        go_enter Tryz.func39, Tryz.ntmps39
        go_wp2_with fail
        refine (c1 _).mono ?_
        rintro e w1 ⟨rfl, rfl⟩
        go_wp2_with fail
        refine (c2 _).mono ?_
        rintro e w2 ⟨rfl, rfl⟩
        go_wp2_with fail
        go_ret
        exact ⟨rfl, rfl⟩
      · have e0 : n.tmod 10 = 0 := by omega
        rw [e0] at c2 hl2
        simp only [Int.neg_zero] at c2 hl2
        rw [e0]
        simp only [Int.neg_zero]
        have hz2 : ¬ (0 : Int) < 0 := by omega
        generalize Lib.itoa 0 = ib at *
        have hl3 : ¬ 9223372036854775807 < ia.length + ib.length := by omega
        have hc := bs_cat ia ib
        rw [hc]
        clear ih small minus hk hk2 hl1 hl2 r0 d0 hz
        go_enter Tryz.func39, Tryz.ntmps39
        go_wp2_with fail
        refine (c1 _).mono ?_
        rintro e w1 ⟨rfl, rfl⟩
        go_wp2_with fail
        refine (c2 _).mono ?_
        rintro e w2 ⟨rfl, rfl⟩
        go_wp2_with fail
        go_ret
        exact ⟨rfl, rfl⟩
theorem rDigits (n : Int) (h0 : -9223372036854775808 ≤ n) (h1 : n ≤ 9223372036854775807) (w : World) : Calls Tryz.prog 39 #[.int .i64 n] w fun e w' => e = .returned (.string (bs (Lib.itoa n))) ∧ w' = w :=
  rDigits_any 18 n w (by omega) h0 h1
theorem Tryz.infoBy : (Tryz.prog.info? 5).map (fun i => (i.zero, i.size, i.bytes)) = some (some (.int .u8 0), 1, 1) := by kernel_rfl
/-- An append of a text's bytes. -/
theorem wpList_append_txt {ops : Array Oper} {rest : List Oper} {o : Oper} {a : Act} {Q : Exit → Act → World → Prop} (w : World) (hgd : o.guard = none) (s x : Operand)
    (ho : o.op = .call { callee := .builtin .append, args := #[s, x], argTypes := #[80, 9] })
    (B : Nat) (v : Value) (xs ys : List UInt8) (hs : a.eval s = v) (hown : w.ownsRow B 5 1 v xs.length (Lib.byteCells xs)) (hx : a.eval x = .string (bs ys)) (hsm : xs.length + ys.length ≤ 140737488355328) (hB : B ≤ w.heap.size)
    (h : ∀ v' w', w'.ownsRow B 5 1 v' (xs ++ ys).length (Lib.byteCells (xs ++ ys)) → w.grownBy w' v.ownBlock → wpList Tryz.prog ops Q rest (a.put o.dst v') w') :
    wpList Tryz.prog ops Q (o :: rest) a w := by
  obtain ⟨i0, hi0, hz0, hz1, hz2⟩ := info_parts Tryz.infoBy
  refine wpList_plain hgd fun K hK => ?_
  obtain ⟨v', w', hr, h2, h3, _⟩ := Lib.run_append_own_string (P := Tryz.prog) w B 80 9 o.type 5 i0 Tryz.underlying80 Tryz.underlying9 hi0 hz0 hz1 hz2 v xs.length _ hown (bs ys) (by unfold maxLen; rw [bs_size]; omega) (by rw [bs_size]; omega) hB
  unfold Oper.wp execOp
  simp only [ho, resolve, invoke, builtin, Sem.run_bind, Sem.run_pure, Result.andThen_ok, List.map_toArray, List.map_cons, List.map_nil, hs, hx, hr]
  refine hK _ _ (h v' w' ?_ h3)
  have e : Lib.strCells (bs ys) = Lib.byteCells ys := by simp [Lib.strCells, Lib.byteCells]
  rw [e, bs_size] at h2
  rw [byteCells_append, List.length_append]
  exact h2
/-- An append of a byte. -/
theorem wpList_append_byte {ops : Array Oper} {rest : List Oper} {o : Oper} {a : Act} {Q : Exit → Act → World → Prop} (w : World) (hgd : o.guard = none) (s x : Operand)
    (ho : o.op = .call { callee := .builtin .append, args := #[s, x], argTypes := #[80, 80] })
    (B : Nat) (v : Value) (xs : List UInt8) (y : UInt8) (hs : a.eval s = v) (hown : w.ownsRow B 5 1 v xs.length (Lib.byteCells xs)) (g : Nat) (hx : a.eval x = .slice (some ⟨g, 0, none⟩) 1 1) (hc : w.cell? ⟨g, 0, none⟩ = some (.int .u8 y.toNat)) (hsm : xs.length + 1 ≤ 140737488355328) (hB : B ≤ w.heap.size)
    (h : ∀ v' w', w'.ownsRow B 5 1 v' (xs ++ [y]).length (Lib.byteCells (xs ++ [y])) → w.grownBy w' v.ownBlock → wpList Tryz.prog ops Q rest (a.put o.dst v') w') :
    wpList Tryz.prog ops Q (o :: rest) a w := by
  obtain ⟨i0, hi0, hz0, hz1, hz2⟩ := info_parts Tryz.infoBy
  refine wpList_append_own_at w hgd s x 80 ho B 5 i0 _ 1 1 Tryz.underlying80 hi0 hz0 hz1 hz2 rfl (by omega) v xs.length _ hs hown ⟨g, 0, none⟩ 1 1 [.int .u8 y.toNat] hx rfl ?_ (by simp [Value.oneCell']) (by unfold maxLen; omega) (by omega) hB (fun v' w' a1 a2 _ _ => h v' w' ?_ a2)
  · intro j u hu
    match j, hu with
    | 0, hu =>
      simp only [List.getElem?_cons_zero, Option.some.injEq] at hu
      subst hu
      rw [Addr.add_lit]
      exact hc
  · rw [byteCells_append, List.length_append]
    exact a1
theorem by32 (W : World) : (Instr.buildSlice 80 1 #[(0, .int .u8 32)]).run Tryz.prog W = .ok (.slice (some ⟨W.heap.size, 0, none⟩) 1 1) (W.alloc (.cells #[.int .u8 32] 5)) := by kernel_rfl
theorem by10 (W : World) : (Instr.buildSlice 80 1 #[(0, .int .u8 10)]).run Tryz.prog W = .ok (.slice (some ⟨W.heap.size, 0, none⟩) 1 1) (W.alloc (.cells #[.int .u8 10] 5)) := by kernel_rfl
/-- The document's Print. -/
def OutAt (o w : World) (v : Value) (xs : List UInt8) : Prop := w.ownsRow o.heap.size 5 1 v xs.length (Lib.byteCells xs) ∧ Kept (fun _ => False) o w
theorem OutAt.calm {o w w' : World} {v : Value} {xs : List UInt8} (h : OutAt o w v xs) (k : Kept (fun _ => False) w w') : OutAt o w' v xs :=
  ⟨own_loc h.1 (fun i e => k.block i (h.1.lt i e).2 (fun f => f)), h.2.trans k (fun _ _ f => f)⟩
theorem OutAt.grow {o w w' : World} {v v' : Value} {xs ys : List UInt8} (h : OutAt o w v xs) (p : w'.ownsRow o.heap.size 5 1 v' ys.length (Lib.byteCells ys)) (g : w.grownBy w' v.ownBlock) : OutAt o w' v' ys :=
  ⟨p, h.2.grown g (fun k e => .inr (h.1.lt k e).1)⟩
theorem OutAt.le {o w : World} {v : Value} {xs : List UInt8} (h : OutAt o w v xs) : o.heap.size ≤ w.heap.size := h.2.size
end Go.Proofs.YtcchflfeomainaaGreatDoor
