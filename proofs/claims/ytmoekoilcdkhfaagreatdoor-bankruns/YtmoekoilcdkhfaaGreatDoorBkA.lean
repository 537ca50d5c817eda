/- Lists of int64 in memory; package bank: Room, fits, mayBe, Start, Read. -/
import Derived.Test.YtmoekoilcdkhfaaGreatDoorAl
import Derived.Test.YtmoekoilcdkhfaaGreatDoorPsG
import Derived.Test.YtmoekoilcdkhfaaGreatDoorVfF
import Derived.Laws.AppendOwnNone
import Derived.Deep.AppendLies
import Derived.Maps.AppendAt
import Derived.Deep.Slices
import Derived.Lib.SliceRun
namespace Go.Proofs.YtmoekoilcdkhfaaGreatDoor
open Go.RowKit
set_option linter.unusedVariables false
set_option linter.unusedSimpArgs false
attribute [local go_sem ↓] Go.wp_at_zero Go.wp_at_succ

def xC (zs : List Int) : List Value := zs.map (Value.int .i64)
theorem xC_length (zs : List Int) : (xC zs).length = zs.length := by simp [xC]
theorem xC_append (a b : List Int) : xC (a ++ b) = xC a ++ xC b := by simp [xC]
theorem xC_one (zs : List Int) : ∀ u ∈ xC zs, u.oneCell' = true := by
  intro u hu
  obtain ⟨z, _, rfl⟩ := List.mem_map.1 hu
  rfl
theorem xC_at (zs : List Int) (j : Nat) (hj : j < zs.length) : (xC zs)[j]? = some (.int .i64 (zs.getD j 0)) := by
  simp [xC, List.getD_eq_getElem?_getD, hj]
/-- A list of int64 in memory. -/
def XIn (w : World) (la : Option Addr) (n : Nat) (zs : List Int) : Prop :=
  n = zs.length ∧ (0 < n → ∃ g o, la = some ⟨g, o, none⟩ ∧ ∀ j, j < n → w.cell? ⟨g, o + j, none⟩ = some (.int .i64 (zs.getD j 0)))
theorem XIn.kept {w w' : World} {la : Option Addr} {n : Nat} {zs : List Int} (h : XIn w la n zs) (k : Kept (fun _ => False) w w') : XIn w' la n zs := by
  refine ⟨h.1, fun h0 => ?_⟩
  obtain ⟨g, o, rfl, hc⟩ := h.2 h0
  refine ⟨g, o, rfl, fun j hj => ?_⟩
  have := hc j hj
  rw [World.cell?_of_block (k.block g (World.block_lt_of_cell? w _ this) (fun f => f))]
  exact this
theorem XIn.addr {w : World} {la : Option Addr} {n : Nat} {zs : List Int} (h : XIn w la n zs) (hn : 0 < n) : ∃ g o, la = some ⟨g, o, none⟩ := by
  obtain ⟨g, o, rfl, _⟩ := h.2 hn
  exact ⟨g, o, rfl⟩
theorem XIn.cell {w : World} {g o n : Nat} {zs : List Int} (h : XIn w (some ⟨g, o, none⟩) n zs) {j : Nat} (hj : j < n) : w.cell? ⟨g, o + j, none⟩ = some (.int .i64 (zs.getD j 0)) := by
  obtain ⟨g', o', e, hc⟩ := h.2 (by omega)
  simp only [Option.some.injEq, Addr.mk.injEq, and_true] at e
  obtain ⟨rfl, rfl⟩ := e
  exact hc j hj
theorem own_xin {w : World} {base t : Nat} {v : Value} {zs : List Int} (h : w.ownsRow base t 1 v zs.length (xC zs)) : ∃ la lc, v = .slice la zs.length lc ∧ XIn w la zs.length zs ∧ zs.length ≤ lc ∧ (la = none → zs.length = 0 ∧ lc = 0) := by
  rcases h.2 with ⟨rfl, hn⟩ | ⟨g, cap, cur, rfl, _, _, hc, _⟩
  · exact ⟨none, 0, by rw [hn], ⟨rfl, fun h0 => by omega⟩, by omega, fun _ => ⟨hn, rfl⟩⟩
  · refine ⟨_, _, rfl, ⟨rfl, fun _ => ⟨g, 0, rfl, fun j hj => ?_⟩⟩, by omega, fun e => by cases e⟩
    rw [Nat.zero_add, h.cellAt j (by simpa [xC] using hj)]
    exact xC_at zs j hj
theorem Tryz.infoX : (Tryz.prog.info? 2).map (fun i => (i.zero, i.size, i.bytes)) = some (some (.int .i64 0), 1, 8) := by kernel_rfl
theorem grownBy_reflX (w : World) (row : Option Nat) : w.grownBy w row := ⟨rfl, rfl, rfl, Nat.le_refl _, fun _ _ _ => rfl⟩
/-- An append of a list of int64, nil or not, onto a row of the call's own. -/
theorem wpList_append_x {ops : Array Oper} {rest : List Oper} {o : Oper} {a : Act} {Q : Exit → Act → World → Prop} (w : World) (hgd : o.guard = none) (s x : Operand)
    (ho : o.op = .call { callee := .builtin .append, args := #[s, x], argTypes := #[24, 24] })
    (base : Nat) (v : Value) (n : Nat) (xs : List Value) (hs : a.eval s = v) (hown : w.ownsRow base 2 1 v n xs)
    (la : Option Addr) (m c : Nat) (zs : List Int) (hx : a.eval x = .slice la m c) (hl : XIn w la m zs) (h0 : la = none → m = 0 ∧ c = 0)
    (hsm : (n + m) * 8 ≤ 140737488355328) (hbase : base ≤ w.heap.size)
    (h : ∀ v' w', w'.ownsRow base 2 1 v' (n + m) (xs ++ xC zs) → w.grownBy w' v.ownBlock → wpList Tryz.prog ops Q rest (a.put o.dst v') w') :
    wpList Tryz.prog ops Q (o :: rest) a w := by
  obtain ⟨i0, hi0, hz0, hz1, hz2⟩ := info_parts Tryz.infoX
  cases la with
  | none =>
    obtain ⟨rfl, rfl⟩ := h0 rfl
    obtain rfl : zs = [] := List.length_eq_zero_iff.1 hl.1.symm
    exact wpList_append_own_none hgd s x 24 ho base 2 i0 1 Tryz.underlying24 hi0 v n xs hs hown hx (h v w (by simpa [xC] using hown) (grownBy_reflX _ _))
  | some ad =>
    refine wpList_append_own_at w hgd s x 24 ho base 2 i0 _ 1 8 Tryz.underlying24 hi0 hz0 hz1 hz2 rfl (by omega) v n xs hs hown ad m c (xC zs) hx (by rw [xC_length, ← hl.1, Nat.mul_one]) ?_ (xC_one zs) (by unfold maxLen; omega) (by omega) hbase (fun v' w' a1 a2 _ _ => h v' w' a1 a2)
    intro j u hu
    have hj := (List.getElem?_eq_some_iff.1 hu).1
    rw [xC_length, ← hl.1] at hj
    obtain ⟨g, off, e, hc⟩ := hl.2 (by omega)
    simp only [Option.some.injEq] at e
    subst e
    rw [Addr.add_lit, hc j hj]
    rw [xC_at zs j (by rw [← hl.1]; exact hj)] at hu
    exact hu
theorem buildX0 (W : World) : (Instr.buildSlice 24 0 #[]).run Tryz.prog W = .ok (.slice (some ⟨W.heap.size, 0, none⟩) 0 0) (W.alloc (.cells #[] 2)) := by kernel_rfl
theorem buildX1 (W : World) (x : Int) : (Instr.buildSlice 24 1 #[(0, .int .i64 x)]).run Tryz.prog W = .ok (.slice (some ⟨W.heap.size, 0, none⟩) 1 1) (W.alloc (.cells #[.int .i64 x] 2)) := by kernel_rfl
theorem owns_new (w : World) (zs : List Int) (hm : zs.length ≤ maxLen) : (w.alloc (.cells (xC zs).toArray 2)).ownsRow w.heap.size 2 1 (.slice (some ⟨w.heap.size, 0, none⟩) zs.length zs.length) zs.length (xC zs) :=
  ⟨by simp [xC], .inr ⟨w.heap.size, zs.length, (xC zs).toArray, rfl, Nat.le_refl _, heap_alloc_new w _, Nat.le_refl _, hm, by simp [xC], by rw [Nat.mul_one]; exact List.take_of_length_le (by simp [xC])⟩⟩
theorem St.new64 {o w : World} {its : List It} (h : St o its w) (zs : List Int) (hm : zs.length ≤ maxLen) : St o (ownI 2 1 (.slice (some ⟨w.heap.size, 0, none⟩) zs.length zs.length) zs.length (xC zs) :: its) (w.alloc (.cells (xC zs).toArray 2)) :=
  h.own (kept_alloc w _) (owns_new w zs hm)
set_option maxHeartbeats 1000000 in
theorem Clone_any (la : Option Addr) (n lc : Nat) (zs : List Int) (w : World) (hX : XIn w la n zs) (h0 : la = none → n = 0 ∧ lc = 0) (hb : n * 8 ≤ 140737488355328) :
    Calls Tryz.prog 32 #[.slice la n lc] w fun e w' => ∃ v, e = .returned v ∧ St w [ownI 2 1 v n (xC zs)] w' := by
  have q : ∀ (W : World) (a : Option Addr) (n c n' c' : Nat), (binOp .eql 24 (.slice a n c) (.slice none n' c')).run Tryz.prog W = .ok (.bool a.isNone) W := fun W a n c n' c' => Lib.run_eql_slice_nil W _ _ a n c n' c' Tryz.underlying24
  cases la with
  | none =>
    obtain ⟨rfl, rfl⟩ := h0 rfl
    obtain rfl : zs = [] := List.length_eq_zero_iff.1 hX.1.symm
    go_enter Tryz.func32, Tryz.ntmps32
    go_wp2
    go_ret
    exact ⟨_, rfl, (St.nil w).own (Kept.refl _ _) (World.ownsRow_nil _ _ _ _)⟩
  | some ad =>
    have hbs := buildX0 w
    have hown := owns_new w [] (Nat.zero_le _)
    have HX := hid (hX.kept (kept_alloc w (.cells #[] 2)))
    clear hX
    go_enter Tryz.func32, Tryz.ntmps32
    go_wp2_with (first | (at_builtin; refine wpList_append_x _ rfl (.tmp 5) (.tmp 6) rfl w.heap.size (.slice (some ⟨w.heap.size, 0, none⟩) 0 0) 0 [] rfl hown (some ad) n lc zs rfl HX.out h0 (by omega) (by simp) ?_; intro v' w' ho hg) | simp only [hbs])
    go_ret
    refine ⟨v', rfl, ?_⟩
    rw [Nat.zero_add, List.nil_append] at ho
    exact (St.nil w).own ((kept_alloc w _).grown hg (fun k hk => .inr (Nat.le_of_eq (Option.some.inj (show some w.heap.size = some k from hk))))) ho
theorem Room_any (n : Int) (w : World) : Calls Tryz.prog 10 #[.int .i64 n] w fun e w' => e = .returned (.int .i64 (roomM n)) ∧ w' = w := by
  unfold roomM
  by_cases h1 : n < 1
  · rw [if_neg (by omega)]
    go_enter Tryz.func10, Tryz.ntmps10
    go_wp2
    go_ret
    exact ⟨rfl, rfl⟩
  · by_cases h2 : 64 < n
    · rw [if_neg (by omega)]
      go_enter Tryz.func10, Tryz.ntmps10
      go_wp2
      go_ret
      exact ⟨rfl, rfl⟩
    · rw [if_pos (by omega)]
      go_enter Tryz.func10, Tryz.ntmps10
      go_wp2
      go_ret
      exact ⟨rfl, rfl⟩
theorem room_pos {n : Int} (h : 0 < roomM n) : 1 ≤ n ∧ n ≤ 64 ∧ roomM n = n := by
  unfold roomM at *
  split at h
  · rename_i h'
    rw [if_pos h']
    exact ⟨h'.1, h'.2, rfl⟩
  · omega
theorem room_zero {n : Int} (h : ¬ 0 < roomM n) : roomM n = 0 := by
  unfold roomM at *
  split at h
  · omega
  · rename_i h'; rw [if_neg h']
set_option maxHeartbeats 1000000 in
theorem bmay_any (b : Bool) (v m : Int) (w : World) : Calls Tryz.prog 49 #[.bool b, .int .i64 v, .int .i64 m] w fun e w' => e = .returned (.bool (fldM b v m)) ∧ w' = w := by
  have HF : ∀ c : Bool, (decide (0 ≤ v) && decide (v ≤ if b = true then m else 0)) = c → fldM b v m = c := fun c h => h
  generalize fldM b v m = F at *
  cases b with
  | true =>
    by_cases h1 : 0 ≤ v
    · by_cases h2 : v ≤ m
      · obtain rfl := HF true (by simp [h1, h2])
        clear HF
        have t1 : decide (0 ≤ v) = true := by simpa using h1
        have t2 : decide (v ≤ m) = true := by simpa using h2
        clear h1 h2
        go_enter Tryz.func49, Tryz.ntmps49
        go_wp2
        go_ret
        exact ⟨rfl, rfl⟩
      · obtain rfl := HF false (by simp [h1, h2])
        clear HF
        have t1 : decide (0 ≤ v) = true := by simpa using h1
        have t2 : decide (v ≤ m) = false := by simpa using h2
        clear h1 h2
        go_enter Tryz.func49, Tryz.ntmps49
        go_wp2
        go_ret
        exact ⟨rfl, rfl⟩
    · obtain rfl := HF false (by simp [h1])
      clear HF
      have t1 : decide (0 ≤ v) = false := by simpa using h1
      clear h1
      go_enter Tryz.func49, Tryz.ntmps49
      go_wp2
      go_ret
      exact ⟨rfl, rfl⟩
  | false =>
    by_cases h1 : 0 ≤ v
    · by_cases h2 : v ≤ 0
      · obtain rfl := HF true (by simp [h1, h2])
        clear HF
        have t1 : decide (0 ≤ v) = true := by simpa using h1
        have t2 : decide (v ≤ 0) = true := by simpa using h2
        clear h1 h2
        go_enter Tryz.func49, Tryz.ntmps49
        go_wp2
        go_ret
        exact ⟨rfl, rfl⟩
      · obtain rfl := HF false (by simp [h1, h2])
        clear HF
        have t1 : decide (0 ≤ v) = true := by simpa using h1
        have t2 : decide (v ≤ 0) = false := by simpa using h2
        clear h1 h2
        go_enter Tryz.func49, Tryz.ntmps49
        go_wp2
        go_ret
        exact ⟨rfl, rfl⟩
    · obtain rfl := HF false (by simp [h1])
      clear HF
      have t1 : decide (0 ≤ v) = false := by simpa using h1
      clear h1
      go_enter Tryz.func49, Tryz.ntmps49
      go_wp2
      go_ret
      exact ⟨rfl, rfl⟩
set_option maxHeartbeats 1000000 in
theorem fits_any (base n cells : Int) (w : World) (hc0 : 0 ≤ cells) (hc1 : cells ≤ 9223372036854775807) : Calls Tryz.prog 31 #[.int .i64 base, .int .i64 n, .int .i64 cells] w fun e w' => e = .returned (.bool (fitsM base n cells)) ∧ w' = w := by
  have hR := Room_any n w
  have HF : ∀ c : Bool, (decide (0 < roomM n) && (decide (0 ≤ base) && decide (base ≤ cells - roomM n))) = c → fitsM base n cells = c := fun c h => h
  have hr0 : 0 ≤ roomM n := by unfold roomM; split <;> omega
  have hr1 : roomM n ≤ 64 := by unfold roomM; split <;> omega
  generalize fitsM base n cells = F at *
  generalize roomM n = r at *
  by_cases h0 : 0 < r
  · by_cases h1 : 0 ≤ base
    · by_cases h2 : base ≤ cells - r
      · obtain rfl := HF true (by simp [h0, h1, h2])
        go_enter Tryz.func31, Tryz.ntmps31
        go_wp2_with (go_at_call 10; refine hR.mono ?_; rintro e w1 ⟨rfl, rfl⟩)
        go_ret
        exact ⟨rfl, rfl⟩
      · obtain rfl := HF false (by simp [h0, h1, h2])
        have hd : decide (base ≤ cells - r) = false := by simpa using h2
        go_enter Tryz.func31, Tryz.ntmps31
        go_wp2_with (go_at_call 10; refine hR.mono ?_; rintro e w1 ⟨rfl, rfl⟩)
        go_ret
        exact ⟨rfl, rfl⟩
    · obtain rfl := HF false (by simp [h0, h1])
      go_enter Tryz.func31, Tryz.ntmps31
      go_wp2_with (go_at_call 10; refine hR.mono ?_; rintro e w1 ⟨rfl, rfl⟩)
      go_ret
      exact ⟨rfl, rfl⟩
  · obtain rfl := HF false (by simp [h0])
    go_enter Tryz.func31, Tryz.ntmps31
    go_wp2_with (go_at_call 10; refine hR.mono ?_; rintro e w1 ⟨rfl, rfl⟩)
    go_ret
    exact ⟨rfl, rfl⟩
theorem makeX (k : Nat) (K : Int) (hK : K = (k : Int)) (hk : k * 8 ≤ 140737488355328) (W : World) : (Instr.makeSlice 24 (.int .i64 K) (.int .i64 K)).run Tryz.prog W = .ok (.slice (some ⟨W.heap.size, 0, none⟩) k k) (W.alloc (.cells (xC (List.replicate k 0)).toArray 2)) := by
  obtain ⟨i0, hi0, hz0, hz1, hz2⟩ := info_parts Tryz.infoX
  subst hK
  have := run_make (P := Tryz.prog) W 24 2 i0 _ Tryz.underlying24 hi0 hz0 .i64 .i64 k k (by omega) (by omega) (by rw [hz2]; omega) (by omega)
  rw [this, hz1, Int.toNat_natCast, made_one rfl]
  simp [xC]
theorem Start_any (n : Int) (w : World) : Calls Tryz.prog 11 #[.int .i64 n] w fun e w' =>
    if 0 < roomM n then ∃ v, e = .returned (.tuple #[v, .int .i64 0]) ∧ St w [ownI 2 1 v n.toNat (xC (List.replicate n.toNat 0))] w' else e = .returned (.tuple #[.slice none 0 0, .int .i64 170]) ∧ w' = w := by
  have hR := Room_any n w
  by_cases h0 : 0 < roomM n
  · obtain ⟨h1, h2, h3⟩ := room_pos h0
    simp only [if_pos h0]
    rw [h3] at hR
    obtain ⟨k, rfl⟩ : ∃ k : Nat, n = (k : Int) := ⟨n.toNat, by omega⟩
    simp only [Int.toNat_natCast]
    have hm := makeX k (k : Int) rfl (by omega) w
    have HS : Hid (St w [ownI 2 1 (.slice (some ⟨w.heap.size, 0, none⟩) k k) k (xC (List.replicate k 0))] (w.alloc (.cells (xC (List.replicate k 0)).toArray 2))) := by
      have := (St.nil w).new64 (List.replicate k 0) (by rw [List.length_replicate]; unfold maxLen; omega)
      rw [List.length_replicate] at this
      exact this
    have t0 : ((k : Int) == 0) = false := by simp; omega
    clear h0 h3
    generalize xC (List.replicate k 0) = zz at *
    go_enter Tryz.func11, Tryz.ntmps11
    go_wp2_with (first | (go_at_call 10; refine hR.mono ?_; rintro e w1 ⟨rfl, rfl⟩) | simp only [hm])
    go_ret2
    exact ⟨_, rfl, HS.out⟩
  · simp only [if_neg h0]
    rw [room_zero h0] at hR
    clear h0
    go_enter Tryz.func11, Tryz.ntmps11
    go_wp2_with (go_at_call 10; refine hR.mono ?_; rintro e w1 ⟨rfl, rfl⟩)
    go_ret2
    exact ⟨rfl, rfl⟩
theorem XIn.part {w : World} {g o n : Nat} {zs : List Int} (h : XIn w (some ⟨g, o, none⟩) n zs) (i k : Nat) (hk : i + k ≤ n) : XIn w (some ⟨g, o + i, none⟩) k ((zs.drop i).take k) := by
  refine ⟨by rw [List.length_take, List.length_drop, ← h.1]; omega, fun h0 => ⟨g, o + i, rfl, fun j hj => ?_⟩⟩
  have := h.cell (j := i + j) (by omega)
  rw [Nat.add_assoc, this]
  have hz := h.1
  congr 2
  simp only [List.getD_eq_getElem?_getD]
  rw [List.getElem?_take_of_lt hj, List.getElem?_drop]
theorem slicePart (g o n lc i k : Nat) (hk : 0 < k) (h1 : i + k ≤ n) (h2 : n ≤ lc) (J K : Int) (hJ : J = (i : Int)) (hK : K = ((i + k : Nat) : Int)) (W : World) : (Instr.slice 24 (.slice (some ⟨g, o, none⟩) n lc) (some (.int .i64 J)) (some (.int .i64 K)) none).run Tryz.prog W = .ok (.slice (some ⟨g, o + i, none⟩) k (lc - i)) W := by
  subst hJ hK
  have e3 : (0 : Int) ≤ (i : Int) := by omega
  have e5 : ¬ lc - i = 0 := by omega
  have e6 : ((i : Int) + (k : Int)).toNat - i = k := by omega
  have e8 : (0 : Int) ≤ (i : Int) + (k : Int) ∧ (i : Int) + (k : Int) ≤ (lc : Int) := by omega
  have e9 : i ≤ ((i : Int) + (k : Int)).toNat := by omega
  have e7 : ¬ lc = i := by omega
  simp only [Instr.slice, run_underlying Tryz.underlying24, Instr.sliceBounds, Instr.sliceBound, asIntOf, go_sem]
  simp [go_sem, e3, e5, e6, e7, e8, e9]
set_option maxHeartbeats 1000000 in
theorem Read_any (la : Option Addr) (m lc : Nat) (zs : List Int) (base n : Int) (w : World) (hX : XIn w la m zs) (hc : m ≤ lc) (hm : m ≤ 9223372036854775807) :
    Calls Tryz.prog 17 #[.slice la m lc, .int .i64 base, .int .i64 n] w fun e w' =>
      if fitsM base n m = true then ∃ v, e = .returned (.tuple #[v, .int .i64 0]) ∧ St w [ownI 2 1 v n.toNat (xC ((zs.drop base.toNat).take n.toNat))] w' else e = .returned (.tuple #[.slice none 0 0, .int .i64 170]) ∧ w' = w := by
  have hF := fits_any base n m w (by omega) (by omega)
  by_cases h : fitsM base n m = true
  · simp only [if_pos h]
    rw [h] at hF
    unfold fitsM at h
    simp only [Bool.and_eq_true, decide_eq_true_eq] at h
    obtain ⟨h0, hb0, hb1⟩ := h
    obtain ⟨h1, h2, h3⟩ := room_pos h0
    rw [h3] at hb1
    obtain ⟨k, rfl⟩ : ∃ k : Nat, n = (k : Int) := ⟨n.toNat, by omega⟩
    obtain ⟨i, rfl⟩ : ∃ i : Nat, base = (i : Int) := ⟨base.toNat, by omega⟩
    simp only [Int.toNat_natCast]
    obtain ⟨g, o, rfl⟩ := hX.addr (by omega)
    have hsl := slicePart g o m lc i k (by omega) (by omega) hc (i : Int) ((i : Int) + (k : Int)) rfl (by push_cast; rfl) w
    have hC := Clone_any (some ⟨g, o + i, none⟩) k (lc - i) ((zs.drop i).take k) w (hX.part i k (by omega)) (fun e => by cases e) (by omega)
    generalize (zs.drop i).take k = ys at *
    have hi1 : (i : Int) + (k : Int) ≤ 9223372036854775807 := by omega
    clear hX h0 h3 hb1
    go_enter Tryz.func17, Tryz.ntmps17
    go_wp2_with (first | (go_at_call 31; refine hF.mono ?_; rintro e w1 ⟨rfl, rfl⟩) | (go_at_call 32; refine hC.mono ?_; rintro e w1 ⟨v, rfl, s1⟩) | simp only [hsl])
    go_ret2
    exact ⟨v, rfl, s1⟩
  · simp only [if_neg h]
    rw [Bool.eq_false_iff.2 h] at hF
    clear h
    go_enter Tryz.func17, Tryz.ntmps17
    go_wp2_with (go_at_call 31; refine hF.mono ?_; rintro e w1 ⟨rfl, rfl⟩)
    go_ret2
    exact ⟨rfl, rfl⟩
end Go.Proofs.YtmoekoilcdkhfaaGreatDoor
