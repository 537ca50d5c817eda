/- Print. -/
import Derived.Test.YtcchflfeomainaaGreatDoorPsK
import Derived.Test.YtcchflfeomainaaGreatDoorTb
import Derived.Shelf.Strings.BuilderK
import Derived.Lib.Itoa
namespace Go.Proofs.YtcchflfeomainaaGreatDoor
open Go.RowKit
set_option linter.unusedVariables false
set_option linter.unusedSimpArgs false

/-- The line of an instruction. -/
def lineP (x : Ins) : List UInt8 := (rowOf x.op).word.data.toList ++ (if (rowOf x.op).takes = 0 then [] else 32 :: Lib.itoa x.a) ++ [10]
def printL : List Ins → List UInt8
  | [] => []
  | x :: l => lineP x ++ printL l
def printM (l : List Ins) : List UInt8 := if (checkM l).1 = 0 then printL l else []
theorem printL_append (a b : List Ins) : printL (a ++ b) = printL a ++ printL b := by
  induction a with
  | nil => rfl
  | cons x l ih => simp [printL, ih]
theorem word_len : ∀ n : Nat, n < 23 → (rowOf (n : Nat)).word.data.toList.length ≤ 6
  | 0, _ => by decide
  | 1, _ => by decide
  | 2, _ => by decide
  | 3, _ => by decide
  | 4, _ => by decide
  | 5, _ => by decide
  | 6, _ => by decide
  | 7, _ => by decide
  | 8, _ => by decide
  | 9, _ => by decide
  | 10, _ => by decide
  | 11, _ => by decide
  | 12, _ => by decide
  | 13, _ => by decide
  | 14, _ => by decide
  | 15, _ => by decide
  | 16, _ => by decide
  | 17, _ => by decide
  | 18, _ => by decide
  | 19, _ => by decide
  | 20, _ => by decide
  | 21, _ => by decide
  | 22, _ => by decide
  | n + 23, h => absurd h (by omega)
theorem dec_len : ∀ k u : Nat, u < 10 ^ (k + 1) → (Lib.decDigits u).length ≤ k + 1
  | 0, u, h => by rw [Lib.decDigits_one (by simpa using h)]; simp
  | k + 1, u, h => by
    rw [Lib.decDigits]
    split
    · simp
    · have := dec_len k (u / 10) (by
        rw [Nat.div_lt_iff_lt_mul (by decide)]
        rw [Nat.pow_succ] at h
        exact h)
      simp; omega
theorem itoa_len (n : Int) (h0 : -9223372036854775808 ≤ n) (h1 : n ≤ 9223372036854775807) : (Lib.itoa n).length ≤ 20 := by
  unfold Lib.itoa
  split
  · have := dec_len 18 n.natAbs (by omega)
    simp; omega
  · have := dec_len 18 n.toNat (by omega)
    omega
theorem builderF_kept {T e : TypeId} {B b : Nat} {xs : List Value} {w w' : World} (h : Lib.IsBuilderF T e B b xs w) (k : Kept (fun _ => False) w w') : Lib.IsBuilderF T e B b xs w' := by
  have aux : ∀ p, Lib.BuilderAtF T e B b p xs w → Lib.BuilderAtF T e B b p xs w' := by
    rintro p ⟨hB, v, hb, hown, hne⟩
    refine ⟨hB, v, (k.block b (lt_of_heap hb) (fun f => f)).trans hb, ⟨hown.1, ?_⟩, hne⟩
    rcases hown.2 with hn | ⟨g, cap, cur, fz, hv, hbg, hg, rest⟩
    · exact .inl hn
    · exact .inr ⟨g, cap, cur, fz, hv, hbg, (k.block g (lt_of_heap hg) (fun f => f)).trans hg, rest⟩
  exact h.elim (fun x => .inl (aux _ x)) (fun x => .inr (aux _ x))
theorem byteCells_append (a b : List UInt8) : Lib.byteCells (a ++ b) = Lib.byteCells a ++ Lib.byteCells b := by simp [Lib.byteCells]
theorem write_any (B b : Nat) (xs ys : List UInt8) (w : World) (h : Lib.IsBuilderF 82 5 B b (Lib.byteCells xs) w) (hlen : xs.length + ys.length ≤ 140737488355328) (hBw : B ≤ w.heap.size) :
    Calls Tryz.prog 36 #[.pointer (some ⟨b, 0, none⟩), .string (bs ys)] w fun e w' => e = .returned (.tuple #[.int .i64 ys.length, .nilIface]) ∧ Lib.IsBuilderF 82 5 B b (Lib.byteCells (xs ++ ys)) w' ∧ Below B w w' ∧ Lib.OthersKept 5 (some b) w w' := by
  refine (Any.Builder_WriteString_k Tryz.lays166 Tryz.Builder_Extra_166 B b _ (bs ys) w h (by rw [Lib.byteCells_length]; simpa [ByteArray.size] using hlen) hBw).mono ?_
  rintro e w' ⟨rfl, h1, h2, h3⟩
  refine ⟨by simp [ByteArray.size], ?_, h2, h3⟩
  rw [byteCells_append]
  have : Lib.strCells (bs ys) = Lib.byteCells ys := by simp [Lib.strCells, Lib.byteCells]
  rw [this] at h1
  exact .inr h1

theorem lineP_len {x : Ins} (hk : knownB x.op = true) (h0 : -9223372036854775808 ≤ x.a) (h1 : x.a ≤ 9223372036854775807) : (lineP x).length ≤ 28 := by
  obtain ⟨m, hm, _, h23⟩ := known_nat hk
  have a := word_len m h23
  have b := itoa_len x.a h0 h1
  unfold lineP
  rw [hm]
  split <;> simp at * <;> omega
theorem check_known {l : List Ins} (h : (checkM l).1 = 0) : l.length ≤ 400 ∧ 0 < l.length ∧ ∀ x ∈ l, wrongAt x l.length = 0 := by
  unfold checkM at h
  split at h
  · cases h
  · rename_i hn
    refine ⟨by omega, by omega, ?_⟩
    generalize (l.length : Int) = e at h
    have aux : ∀ (k : Nat) (l : List Ins), (checkFrom e k l).1 = 0 → ∀ x ∈ l, wrongAt x e = 0 := by
      intro k l
      induction l generalizing k with
      | nil => intro _ x hx; cases hx
      | cons y r ih =>
        intro hh x hx
        unfold checkFrom at hh
        split at hh
        · rcases List.mem_cons.1 hx with rfl | hx
          · assumption
          · exact ih _ hh x hx
        · rename_i hw
          exact absurd hh hw
    exact aux 0 l h
theorem wrong_known {x : Ins} {e : Int} (h : wrongAt x e = 0) : knownB x.op = true := by
  unfold wrongAt at h
  split at h
  · cases h
  · simpa using ‹¬ knownB x.op = false›
theorem printL_len {l : List Ins} (hw : ∀ x ∈ l, knownB x.op = true) (hA : ∀ x ∈ l, -9223372036854775808 ≤ x.a ∧ x.a ≤ 9223372036854775807) : (printL l).length ≤ l.length * 28 := by
  induction l with
  | nil => simp [printL]
  | cons x r ih =>
    have a := lineP_len (hw x (by simp)) (hA x (by simp)).1 (hA x (by simp)).2
    have b := ih (fun y hy => hw y (by simp [hy])) (fun y hy => hA y (by simp [hy]))
    simp only [printL, List.length_append, List.length_cons]
    omega
theorem printL_snoc (l : List Ins) (j : Nat) (hj : j < l.length) : printL (l.take (j + 1)) = printL (l.take j) ++ lineP (l.getD j Ins.zero) := by
  rw [List.take_succ_eq_append_getElem hj, printL_append]
  simp [printL, List.getD_eq_getElem?_getD, hj]
set_option maxRecDepth 100000 in
set_option maxHeartbeats 2000000 in
theorem Print_any (la : Option Addr) (n lc : Nat) (l : List Ins) (w : World) (hL : IIn w la n l) (hE : Env w) (hA : ∀ x ∈ l, -9223372036854775808 ≤ x.a ∧ x.a ≤ 9223372036854775807) :
    Calls Tryz.prog 20 #[.slice la n lc] w fun e w' => e = .returned (.tuple #[.string (bs (printM l)), .int .i64 (checkM l).1]) ∧ Kept (fun _ => False) w w' := by
  have k0 := kept_alloc w (.cells tabC 57)
  have hT : TabAt 57 w.heap.size (w.alloc (.cells tabC 57)) := heap_alloc_new _ _
  have hq := check_any w.heap.size la n lc l _ hT (hL.kept k0)
  unfold printM
  by_cases hc : (checkM l).1 = 0
  · rw [if_pos hc]
    obtain ⟨hn1, hn2, hw⟩ := check_known hc
    rw [hc] at hq ⊢
    have HN : Hid (n = l.length) := hL.1
    have HA := hid hA
    have HW : Hid (∀ x ∈ l, knownB x.op = true) := fun x hx => wrong_known (hw x hx)
    have HI : Hid (∀ W, Kept (fun _ => False) (w.alloc (.cells tabC 57)) W → Kept (fun _ => False) w W ∧ IIn W la n l ∧ TabAt 57 w.heap.size W ∧ Env W) := fun W k => ⟨k0.trans k (fun _ _ f => f), hL.kept (k0.trans k (fun _ _ f => f)), hT.kept k, hE.kept (k0.trans k (fun _ _ f => f))⟩
    obtain ⟨g, o, rfl⟩ := hL.addr (by have := HN.out; omega)
    generalize (checkM l).2 = c2 at *
    clear hL hE hT k0 hw hc hA
    go_enter Tryz.func20, Tryz.ntmps20
    go_wp2_with (first | (go_at_call 27; refine (table_any _).mono ?_; rintro e w1 ⟨rfl, rfl⟩) | (go_at_call 26; refine hq.mono ?_; rintro e w2 ⟨rfl, k1⟩))
    obtain ⟨kw, hI, hT, hE⟩ := HI.out _ k1
    generalize w.heap.size = b at *
    clear k1 hq HI
    have hb0 : Lib.IsBuilderF 82 5 w2.heap.size w2.heap.size (Lib.byteCells (printL (l.take 0))) (w2.alloc (.cells #[.pointer none, .slice none 0 0] 82)) :=
      .inl ⟨Nat.le_refl _, .slice none 0 0, heap_alloc_new _ _, ⟨rfl, .inl ⟨rfl, rfl⟩⟩, by simp [Value.ownBlock]⟩
    have kb0 : Below w2.heap.size w2 (w2.alloc (.cells #[.pointer none, .slice none 0 0] 82)) := (kept_alloc w2 _).below (Nat.le_refl _) (fun _ _ f => f)
    generalize hB : w2.heap.size = B at *
    have HB := hid hB
    clear hB
    go_loopw [22] (fun i wr => ∃ j : Nat, i = .int .i64 j ∧ j ≤ n ∧ Lib.IsBuilderF 82 5 B B (Lib.byteCells (printL (l.take j))) wr ∧ Below B w2 wr) (fun i _ => n - (intOf i).toNat)
    case atStart => exact ⟨0, rfl, Nat.zero_le _, hb0, kb0⟩
    case round =>
      clear hb0 kb0
      obtain ⟨j, rfl, hj, hbd, hbl⟩ := hrel
      have kr : Kept (fun _ => False) w2 wr := kept_below (by rw [HB.out]; exact hbl)
      have hsz : B ≤ wr.heap.size := by have := kr.size; have := HB.out; omega
      by_cases hlt : j < n
      · have hz : j < l.length := by have := HN.out; omega
        obtain ⟨c0, c1⟩ := (hI.kept kr).cells hz
        have hmem : l.getD j Ins.zero ∈ l := by rw [List.getD_eq_getElem?_getD, List.getElem?_eq_getElem hz]; exact List.getElem_mem hz
        have hkn := HW.out _ hmem
        obtain ⟨hx0, hx1⟩ := HA.out _ hmem
        have HP : Hid (printL (l.take (j + 1)) = printL (l.take j) ++ lineP (l.getD j Ins.zero)) := printL_snoc l j hz
        have hlen : (printL (l.take j)).length ≤ 400 * 28 := by
          have := printL_len (l := l.take j) (fun x hx => HW.out x (List.mem_of_mem_take hx)) (fun x hx => HA.out x (List.mem_of_mem_take hx))
          have h2 : (l.take j).length ≤ 400 := by simp; omega
          omega
        have h0 : (0 : Int) ≤ (j : Int) := Int.natCast_nonneg _
        have h1 : (j : Int) < (n : Int) := by omega
        generalize l.getD j Ins.zero = x at *
        obtain ⟨xo, xa⟩ := x
        simp only at c0 c1 hkn hx0 hx1
        obtain ⟨m, rfl, hm0, hm1⟩ := known_nat hkn
        have hTr := hT.kept kr
        have hEr := hE.kept kr
        have ho := (hTr.kept (kept_alloc wr (.cells #[.int .i64 m, .int .i64 xa] 48))).word hm1
        have b0 : (0 : Int) ≤ (m : Int) := by omega
        have b1 : (m : Int) < (23 : Int) := by omega
        have ewd := bs_data (rowOf (m : Int)).word
        have hwl := word_len m hm1
        have hwr := write_any B B (printL (l.take j)) (rowOf (m : Int)).word.data.toList (wr.alloc (.cells #[.int .i64 m, .int .i64 xa] 48)) (hbd.alloc _) (by omega) (by simp; omega)
        rw [ewd] at hwr
        have HPL : Hid (lineP ⟨m, xa⟩ = (rowOf (m : Int)).word.data.toList ++ (if (rowOf (m : Int)).takes = 0 then [] else 32 :: Lib.itoa xa) ++ [10]) := rfl
        have HM : Hid ((wr.alloc (.cells #[.int .i64 m, .int .i64 xa] 48)).heap[wr.heap.size]? = some (.cells #[.int .i64 m, .int .i64 xa] 48 (0, 0))) := heap_alloc_new _ _
        have HBa : Hid (Below B w2 (wr.alloc (.cells #[.int .i64 m, .int .i64 xa] 48))) := hbl.trans ((kept_alloc wr _).below hsz (fun _ _ f => f))
        have HTE : Hid (∀ W, Below B w2 W → TabAt 57 b W ∧ Env W) := fun W k => ⟨hT.kept (kept_below (by rw [HB.out]; exact k)), hE.kept (kept_below (by rw [HB.out]; exact k))⟩
        have hMB : wr.heap.size ≠ B := by
          intro e
          rcases hbd with ⟨_, v, hb, _⟩ | ⟨_, v, hb, _⟩ <;> (have := lt_of_heap hb; omega)
        clear hbd hbl kr hTr hEr ewd hmem
        go_wp2_with fail
        refine hwr.mono ?_
        clear hwr
        rintro e w3 ⟨rfl, hb3, kb3, ko3⟩
        have hM3 : w3.heap[wr.heap.size]? = some (.cells #[.int .i64 m, .int .i64 xa] 48 (0, 0)) := ko3 _ _ HM.out (fun e => hMB (Option.some.inj e)) (fun c fz e => by simp at e)
        have kb : Below B w2 w3 := HBa.out.trans kb3
        obtain ⟨hT3, hE3⟩ := HTE.out _ kb
        have p0 : w3.cell? ⟨wr.heap.size, 0, none⟩ = some (.int .i64 m) := cell_of_heap hM3
        have p1 : w3.cell? ⟨wr.heap.size, 1, none⟩ = some (.int .i64 xa) := cell_of_heap hM3
        have p2 := hT3.takes hm1
        have hs3 : B ≤ w3.heap.size := by have := kb.size; have := HB.out; omega
        generalize wr.heap.size = M at *
        generalize (rowOf (m : Int)).word = wd at *
        generalize (rowOf (m : Int)).takes = tk at *
        clear HM HBa kb3 ko3 hMB
        by_cases h3 : tk = 0
        · have HL : Hid (lineP ⟨m, xa⟩ = wd.data.toList ++ [10]) := by have := HPL.out; rw [if_pos h3, List.append_nil] at this; exact this
          have t3 : (tk != 0) = false := by simp [h3]
          have hw2 := write_any B B (printL (l.take j) ++ wd.data.toList) [10] w3 hb3 (by simp only [List.length_append, List.length_cons, List.length_nil]; omega) hs3
          clear hb3 h3 HTE hT3 hE3 HPL
          go_wp2_with fail
          refine hw2.mono ?_
          clear hw2
          rintro e w4 ⟨rfl, hb4, kb4, ko4⟩
          have H4 := hid (show Lib.IsBuilderF 82 5 B B (Lib.byteCells (printL (l.take (j + 1)))) w4 ∧ Below B w2 w4 from ⟨by rw [HP.out, HL.out, ← List.append_assoc]; exact hb4, kb.trans kb4⟩)
          clear hb4 kb4 ko4 kb
          go_wp2
          go_roundw
          case rel => exact ⟨j + 1, by simp, by omega, H4.out.1, H4.out.2⟩
          case measure => simp [intOf]; omega
        · have HL : Hid (lineP ⟨m, xa⟩ = wd.data.toList ++ (32 :: Lib.itoa xa) ++ [10]) := by have := HPL.out; rw [if_neg h3] at this; exact this
          have t3 : (tk != 0) = true := by simp [h3]
          have hit := itoa_any xa hx0 hx1 hE3
          have hil := itoa_len xa hx0 hx1
          generalize Lib.itoa xa = iv at *
          have hcat : (⟨#[32]⟩ : ByteArray) ++ bs iv = bs (32 :: iv) := by simp [bs, ByteArray.ext_iff]
          clear h3 HTE hT3 hE3 HPL
          go_wp2_with fail
          refine hit.mono ?_
          clear hit
          rintro e w4 ⟨rfl, k4⟩
          have hs4 : B ≤ w4.heap.size := Nat.le_trans hs3 k4.size
          have hw2 := write_any B B (printL (l.take j) ++ wd.data.toList) (32 :: iv) w4 (builderF_kept hb3 k4) (by simp only [List.length_append, List.length_cons, List.length_nil]; omega) hs4
          have kb4 : Below B w2 w4 := kb.trans (k4.below hs3 (fun _ _ f => f))
          clear hb3 kb
          go_wp2_with fail
          refine hw2.mono ?_
          clear hw2
          rintro e w5 ⟨rfl, hb5, kb5, ko5⟩
          have kb6 : Below B w2 w5 := kb4.trans kb5
          have hs5 : B ≤ w5.heap.size := by have := kb6.size; have := HB.out; omega
          have hw3 := write_any B B (printL (l.take j) ++ wd.data.toList ++ (32 :: iv)) [10] w5 hb5 (by simp only [List.length_append, List.length_cons, List.length_nil]; omega) hs5
          clear hb5 kb5 ko5 kb4 hcat
          go_wp2_with fail
          refine hw3.mono ?_
          clear hw3
          rintro e w7 ⟨rfl, hb7, kb7, ko7⟩
          have H7 := hid (show Lib.IsBuilderF 82 5 B B (Lib.byteCells (printL (l.take (j + 1)))) w7 ∧ Below B w2 w7 from ⟨by rw [HP.out, HL.out, ← List.append_assoc, ← List.append_assoc]; exact hb7, kb6.trans kb7⟩)
          clear hb7 kb7 ko7 kb6
          go_wp2
          go_roundw
          case rel => exact ⟨j + 1, by simp, by omega, H7.out.1, H7.out.2⟩
          case measure => simp [intOf]; omega
      · have h1 : ¬ (j : Int) < (n : Int) := by omega
        have ej : l.take j = l := List.take_of_length_le (by have := HN.out; omega)
        rw [ej] at hbd
        have hne : printL l ≠ [] := by
          cases l with
          | nil => simp at hn2
          | cons x r => simp [printL, lineP]
        have hs := Any.Builder_String_f Tryz.lays169 Tryz.Builder_Extra_169 B B (printL l) wr hbd hne
        have HK := hid hbl
        clear hbd hne hbl kr
        go_wp2_with (go_at_call 38; refine hs.mono ?_; rintro e w5 ⟨rfl, _, k5⟩)
        go_ret2
        exact ⟨rfl, kw.trans (kept_below (by rw [HB.out]; exact HK.out.trans k5)) (fun _ _ f => f)⟩
  · rw [if_neg hc]
    have hcn : ((checkM l).1 != 0) = true := by simpa using hc
    generalize (checkM l).1 = c1 at *
    generalize (checkM l).2 = c2 at *
    clear hL hE hT hc
    go_enter Tryz.func20, Tryz.ntmps20
    go_wp2_with (first | (go_at_call 27; refine (table_any _).mono ?_; rintro e w1 ⟨rfl, rfl⟩) | (go_at_call 26; refine hq.mono ?_; rintro e w2 ⟨rfl, k1⟩))
    go_ret2
    exact ⟨rfl, k0.trans k1 (fun _ _ f => f)⟩
end Go.Proofs.YtcchflfeomainaaGreatDoor
