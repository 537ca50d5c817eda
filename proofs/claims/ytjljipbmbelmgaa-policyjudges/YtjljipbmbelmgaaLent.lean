/- Victims lent with a mark behind them, and looked at again: lent, whole. -/
import Derived.Test.YtjljipbmbelmgaaJd
import Derived.Laws.AppendOwnNone
import Derived.Deep.AppendLies
import Derived.ChangeKeysEq
namespace Go.Proofs.Ytjljipbmbelmgaa
open Go.RowKit
set_option linter.unusedVariables false
set_option linter.unusedSimpArgs false
attribute [local go_sem ↓] Go.wp_at_zero Go.wp_at_succ

set_option maxRecDepth 100000 in
theorem neVt (a : Int) (b : Int) (c : Int) (d : Int) (w : World) : (binOp .neq 46 (.agg #[.int .i64 a, .int .i64 b, .int .i64 c, .int .i64 d]) (.agg #[.int .i64 a, .int .i64 b, .int .i64 c, .int .i64 d])).run Try.prog w = .ok (.bool false) w := by
  rw [run_neq_struct, run_equalIn_struct w 9999 46 _ _ (by kernel_rfl) (by kernel_rfl)]
  have hi0 : ∀ (x : Int) (w : World), (Op.equalIn 9999 3 (.int .i64 x) (.int .i64 x)).run Try.prog w = .ok (x == x) w := fun x w => run_equalIn_int w 9998 3 .i64 .i64 x x Try.underlying3
  have p0 : ∀ w, (part 3 #[.int .i64 a, .int .i64 b, .int .i64 c, .int .i64 d] 0).run Try.prog w = .ok (.int .i64 a) w := fun w => run_part_plain (P := Try.prog) w (by kernel_rfl) rfl
  have p1 : ∀ w, (part 3 #[.int .i64 a, .int .i64 b, .int .i64 c, .int .i64 d] 1).run Try.prog w = .ok (.int .i64 b) w := fun w => run_part_plain (P := Try.prog) w (by kernel_rfl) rfl
  have p2 : ∀ w, (part 3 #[.int .i64 a, .int .i64 b, .int .i64 c, .int .i64 d] 2).run Try.prog w = .ok (.int .i64 c) w := fun w => run_part_plain (P := Try.prog) w (by kernel_rfl) rfl
  have p3 : ∀ w, (part 3 #[.int .i64 a, .int .i64 b, .int .i64 c, .int .i64 d] 3).run Try.prog w = .ok (.int .i64 d) w := fun w => run_part_plain (P := Try.prog) w (by kernel_rfl) rfl
  simp [Program.fieldsOf, Try.underlying46, Op.eqFields, Sem.run_bind, p0, p1, p2, p3, hi0]

set_option maxRecDepth 100000 in
theorem eqVt (a : Int) (b : Int) (c : Int) (d : Int) (w : World) : (binOp .eql 46 (.agg #[.int .i64 a, .int .i64 b, .int .i64 c, .int .i64 d]) (.agg #[.int .i64 a, .int .i64 b, .int .i64 c, .int .i64 d])).run Try.prog w = .ok (.bool true) w := by
  rw [run_eql_struct, run_equalIn_struct w 9999 46 _ _ (by kernel_rfl) (by kernel_rfl)]
  have hi0 : ∀ (x : Int) (w : World), (Op.equalIn 9999 3 (.int .i64 x) (.int .i64 x)).run Try.prog w = .ok (x == x) w := fun x w => run_equalIn_int w 9998 3 .i64 .i64 x x Try.underlying3
  have p0 : ∀ w, (part 3 #[.int .i64 a, .int .i64 b, .int .i64 c, .int .i64 d] 0).run Try.prog w = .ok (.int .i64 a) w := fun w => run_part_plain (P := Try.prog) w (by kernel_rfl) rfl
  have p1 : ∀ w, (part 3 #[.int .i64 a, .int .i64 b, .int .i64 c, .int .i64 d] 1).run Try.prog w = .ok (.int .i64 b) w := fun w => run_part_plain (P := Try.prog) w (by kernel_rfl) rfl
  have p2 : ∀ w, (part 3 #[.int .i64 a, .int .i64 b, .int .i64 c, .int .i64 d] 2).run Try.prog w = .ok (.int .i64 c) w := fun w => run_part_plain (P := Try.prog) w (by kernel_rfl) rfl
  have p3 : ∀ w, (part 3 #[.int .i64 a, .int .i64 b, .int .i64 c, .int .i64 d] 3).run Try.prog w = .ok (.int .i64 d) w := fun w => run_part_plain (P := Try.prog) w (by kernel_rfl) rfl
  simp [Program.fieldsOf, Try.underlying46, Op.eqFields, Sem.run_bind, p0, p1, p2, p3, hi0]

def mark : Vt := ⟨-77, 0, 0, 0⟩
theorem own_cap {w : World} {base g n cap : Nat} {e : TypeId} {size : Nat} {xs : List Value} (h : w.ownsRow base e size (.slice (some ⟨g, 0, none⟩) n cap) n xs) : n ≤ cap ∧ base ≤ g ∧ g < w.heap.size := by
  rcases h.2 with ⟨h1, _⟩ | ⟨g', c', cur, h1, hb, hg, hc, _⟩
  · cases h1
  · simp only [Value.slice.injEq, Option.some.injEq, Addr.mk.injEq, and_true, true_and] at h1
    obtain ⟨rfl, rfl⟩ := h1
    exact ⟨hc, hb, lt_of_heap hg⟩
theorem grownBy_refl (w : World) (row : Option Nat) : w.grownBy w row := ⟨rfl, rfl, rfl, Nat.le_refl _, fun _ _ _ => rfl⟩
/-- A list of victims of the call's own lies in memory. -/
theorem own_vin {w : World} {base g m cap : Nat} {ys : List Vt} (h : w.ownsRow base 46 4 (.slice (some ⟨g, 0, none⟩) m cap) m (vtCells ys)) (zs r : List Vt) (e : ys = zs ++ r) : VIn w (some ⟨g, 0, none⟩) zs.length zs := by
  refine ⟨rfl, fun _ => ⟨g, 0, rfl, fun j u hu => ?_⟩⟩
  have hl := h.1
  have hj := (List.getElem?_eq_some_iff.1 hu).1
  have hy : (vtCells ys)[j]? = some u := by
    rw [e, vtCells_append, List.getElem?_append_left hj]; exact hu
  have hj2 := (List.getElem?_eq_some_iff.1 hy).1
  rw [Nat.zero_add, h.cellAt j (by omega)]
  exact hy

/-- An append of a list that came in, nil or not, onto a row of the call's own. -/
theorem wpList_append_vics {ops : Array Oper} {rest : List Oper} {o : Oper} {a : Act} {Q : Exit → Act → World → Prop} (w : World) (hgd : o.guard = none) (s x : Operand)
    (ho : o.op = .call { callee := .builtin .append, args := #[s, x], argTypes := #[24, 24] })
    (base : Nat) (v : Value) (n : Nat) (xs : List Value) (hs : a.eval s = v) (hown : w.ownsRow base 46 4 v n xs)
    (la : Option Addr) (m c : Nat) (zs : List Vt) (hx : a.eval x = .slice la m c) (hl : VIn w la m zs) (h0 : la = none → m = 0 ∧ c = 0)
    (hsm : (n + m) * 32 ≤ 140737488355328) (hbase : base ≤ w.heap.size)
    (h : ∀ v' w', w'.ownsRow base 46 4 v' (n + m) (xs ++ vtCells zs) → w.grownBy w' v.ownBlock → wpList Try.prog ops Q rest (a.put o.dst v') w') :
    wpList Try.prog ops Q (o :: rest) a w := by
  obtain ⟨i0, hi0, hz0, hz1, hz2⟩ := info_parts Try.infoVt
  cases la with
  | none =>
    obtain ⟨rfl, rfl⟩ := h0 rfl
    obtain rfl : zs = [] := List.length_eq_zero_iff.1 hl.1.symm
    exact wpList_append_own_none hgd s x 24 ho base 46 i0 4 Try.underlying24 hi0 v n xs hs hown hx (h v w (by simpa [vtCells] using hown) (grownBy_refl _ _))
  | some ad =>
    refine wpList_append_own_at w hgd s x 24 ho base 46 i0 _ 4 32 Try.underlying24 hi0 hz0 hz1 hz2 rfl (by omega) v n xs hs hown ad m c (vtCells zs) hx (by rw [vtCells_length, ← hl.1]) ?_ (vtCells_one zs) (by unfold maxLen; omega) (by omega) hbase (fun v' w' a1 a2 _ _ => h v' w' a1 a2)
    intro j u hu
    have hj := (List.getElem?_eq_some_iff.1 hu).1
    rw [vtCells_length] at hj
    obtain ⟨g, off, e, hc⟩ := hl.2 (by have := hl.1; omega)
    simp only [Option.some.injEq] at e
    subst e
    rw [Addr.add_lit]
    exact hc j u hu

theorem buildVt (W : World) (a b c d : Int) : (Instr.buildSlice 24 1 #[(0, .agg #[.int .i64 a, .int .i64 b, .int .i64 c, .int .i64 d])]).run Try.prog W = .ok (.slice (some ⟨W.heap.size, 0, none⟩) 1 1) (W.alloc (.cells #[.int .i64 a, .int .i64 b, .int .i64 c, .int .i64 d] 46)) := by kernel_rfl

set_option maxRecDepth 100000 in
set_option maxHeartbeats 1000000 in
theorem lent_st {o w : World} {its : List It} (h : St o its w) {la : Option Addr} {n lc : Nat} {zs : List Vt} (hL : VIn w la n zs) (hR : n ≤ lc ∧ lc * 32 ≤ 140737488351232 ∧ (la = none → n = 0 ∧ lc = 0)) :
    Calls Try.prog 8 #[.slice la n lc] w fun e w' => ∃ g cap, e = .returned (.slice (some ⟨g, 0, none⟩) n cap) ∧ St o (ownI 46 4 (.slice (some ⟨g, 0, none⟩) (n + 1) cap) (n + 1) (vtCells (zs ++ [mark])) :: its) w' := by
  obtain ⟨i0, hi0, hz0, hz1, hz2⟩ := info_parts Try.infoVt
  have HS : Hid (∀ w', Kept (fun _ => False) w w' → ∀ v m xs, w'.ownsRow w.heap.size 46 4 v m xs → St o (ownI 46 4 v m xs :: its) w') := fun w' k v m xs p => h.own k p
  have k0 : Kept (fun _ => False) w (w.alloc (.cells #[] 46)) := (Kept.refl _ w).alloc _
  have hL1 := hL.kept k0
  have hown0 := World.ownsRow_made (base := w.heap.size) (e := 46) (size := 4) w #[] 0 (Nat.le_refl _) (Nat.zero_le _) rfl
  obtain ⟨hr1, hr2, hr3⟩ := hR
  have HR : Hid (la = none → n = 0 ∧ lc = 0) := hr3
  clear hL h hr3
  go_enter Try.func8, Try.ntmps8
  go_wp2_with (first | (at_builtin; refine wpList_append_vics _ rfl (.tmp 4) (.tmp 5) rfl w.heap.size (.slice (some ⟨w.heap.size, 0, none⟩) 0 0) 0 [] rfl hown0 la n lc zs rfl hL1 HR.out (by omega) (by simp) ?_; intro v1 w1 ho1 hg1; simp only [Nat.zero_add, List.nil_append] at ho1; have hs1 : w.heap.size ≤ w1.heap.size := (by have := hg1.size; simp at this; omega)) | (at_builtin; refine wpList_append_lies _ rfl (.tmp 7) (.tmp 9) 24 rfl w.heap.size 46 i0 _ 4 32 Try.underlying24 hi0 hz0 hz1 hz2 rfl (by omega) v1 n (vtCells zs) rfl (ho1.alloc _) ⟨w1.heap.size, 0, none⟩ 1 1 [.int .i64 (-77), .int .i64 0, .int .i64 0, .int .i64 0] rfl rfl (World.news_of_block (cs := #[.int .i64 (-77), .int .i64 0, .int .i64 0, .int .i64 0]) (t := 46) (fr := (0, 0)) (heap_alloc_new w1 _)) (by simp [Value.oneCell']) (by omega) (by unfold maxLen; omega) (by omega) (by simp; omega) (w1.heap.size + 1) (by simp) ?_; intro g cap w2 ho2 hg2 ha2 hl2; have hcap := (own_cap ho2).1; have hc1 : (n : Int) ≤ (cap : Int) := (by omega)))
  go_ret
  refine ⟨g, cap, rfl, HS.out _ ?_ _ _ _ (by simpa [vtCells_append, vtCells, Vt.cells, mark] using ho2)⟩
  exact ((k0.grown hg1 (fun k e => .inr (by simp [Value.ownBlock] at e; omega))).alloc _).grown hg2 (fun k e => .inr (ho1.lt k e).1)

set_option maxRecDepth 100000 in
set_option maxHeartbeats 1000000 in
theorem whole_st {o w : World} {its : List It} (h : St o its w) (i : Nat) {g cap n : Nat} {zs : List Vt} (hi : its[i]? = some (ownI 46 4 (.slice (some ⟨g, 0, none⟩) (n + 1) cap) (n + 1) (vtCells (zs ++ [mark])))) {la : Option Addr} {lc : Nat} (hL : VIn w la n zs) (hn : n ≤ 17592186044416) :
    Calls Try.prog 11 #[.slice (some ⟨g, 0, none⟩) n cap, .slice la n lc] w fun e w' => e = .returned (.bool true) ∧ St o its w' := by
  have ho : w.ownsRow 0 46 4 (.slice (some ⟨g, 0, none⟩) (n + 1) cap) (n + 1) (vtCells (zs ++ [mark])) := h.get i hi
  have HS : Hid (∀ k, St o its (w.drewN k)) := fun k => h.calm ((Kept.refl _ w).drewN k)
  have HN : Hid (n = zs.length) := hL.1
  have hcap := (own_cap ho).1
  have hG := own_vin ho zs [mark] rfl
  rw [← HN.out] at hG
  have hM := own_vin ho (zs ++ [mark]) [] (by simp)
  obtain ⟨m0, m1, m2, m3⟩ := hM.cells (j := n) (by rw [HN.out]; simp)
  have e1 : (zs ++ [mark])[n]'(by rw [HN.out]; simp) = mark := by simp [HN.out]
  rw [e1] at m0 m1 m2 m3
  simp only [mark, Nat.zero_add] at m0 m1 m2 m3
  clear ho hM e1 h hi
  have HL : Hid (VIn w la n zs) := hL
  have HG : Hid (VIn w (some ⟨g, 0, none⟩) n zs) := hG
  clear hL hG
  have hl0 : (0 : Int) ≤ (n : Int) := Int.natCast_nonneg _
  have hl1 : (n : Int) < (n : Int) + 1 := by omega
  have hl4 : (n : Int) + 1 ≤ (cap : Int) := by omega
  have hE : ∀ w, (binOp .eql 46 (.agg #[.int .i64 (-77), .int .i64 0, .int .i64 0, .int .i64 0]) (.agg #[.int .i64 (-77), .int .i64 0, .int .i64 0, .int .i64 0])).run Try.prog w = .ok (.bool true) w := eqVt _ _ _ _
  go_enter Try.func11, Try.ntmps11
  go_wp2_with fail
  go_loopw [6] (fun i wr => ∃ j q : Nat, i = .int .i64 j ∧ j ≤ n ∧ wr = w.drewN q) (fun i _ => n - (intOf i).toNat)
  case atStart => exact ⟨0, 0, rfl, Nat.zero_le _, rfl⟩
  case round =>
    obtain ⟨j, q, rfl, hj, rfl⟩ := hrel
    by_cases hlt : j < n
    · have hz : j < zs.length := by have := HN.out; omega
      obtain ⟨g2, o2, rfl, _⟩ := HL.out.2 (by omega)
      obtain ⟨a0, a1, a2, a3⟩ := HG.out.cells hz
      obtain ⟨b0, b1, b2, b3⟩ := HL.out.cells hz
      simp only [Nat.zero_add] at a0 a1 a2 a3
      have hne : ∀ w, (binOp .neq 46 (.agg #[.int .i64 zs[j].so, .int .i64 zs[j].ge, .int .i64 zs[j].sp, .int .i64 zs[j].th]) (.agg #[.int .i64 zs[j].so, .int .i64 zs[j].ge, .int .i64 zs[j].sp, .int .i64 zs[j].th])).run Try.prog w = .ok (.bool false) w := neVt _ _ _ _
      generalize zs[j] = t at *
      have h0 : (0 : Int) ≤ (j : Int) := Int.natCast_nonneg _
      have h1 : (j : Int) < (n : Int) := by omega
      have h2 : (j : Int) < (n : Int) + 1 := by omega
      go_wp2_with fail
      go_quiet (fail)
      go_wp2
      go_roundw
      case rel => exact ⟨j + 1, _, by simp, by omega, rfl⟩
      case measure => simp [intOf]; omega
    · obtain rfl : j = n := by omega
      have h1 : ¬ (j : Int) < (j : Int) := by omega
      go_wp2
      go_ret
      exact ⟨rfl, HS.out _⟩
end Go.Proofs.Ytjljipbmbelmgaa
